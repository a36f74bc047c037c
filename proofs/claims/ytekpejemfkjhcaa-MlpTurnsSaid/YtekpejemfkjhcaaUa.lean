
/- Ua: texts joined: Law Math Mem Wd Arg FixA VecL Prod Fun App Rws Dig Norm TbM TbN Box Grn Step App5 LnR RgF SqA SpR MqL OvMath LnW Byte. -/
import Derived.Test.YtekpejemfkjhcaaRows
import Derived.WalkKit
import Derived.ProofKit
import Derived.OpenShut
import Derived.Carry
import Derived.Test.YtekpejemfkjhcaaProg
import Derived.Handy
import Derived.Deep.OwnRows
import Derived.Deep.Draws
import Derived.Laws.OwnMore
import Derived.Deep.QuietTactic
import Derived.BigQuiet
import Derived.Laws.Slices
import Derived.Laws.BytesArg
import Derived.WideShapes
import Derived.WalkSpells
import Derived.WalkLawsBesides
import Derived.Maps.AppendAt
import Derived.OwnWalk
import Derived.RegionTactic
import Derived.Deep.RegionHeld3
import Derived.Deep.RegionLaw
import Derived.RangeFuncNested
import Derived.RangeFuncBound
import Derived.RangeFuncCalls
import Derived.RangeFuncLeaves
import Derived.RangeFuncBox
import Derived.Shelf.Abstract
import Derived.Shelf.RegionOpen
import Derived.OwnWalkIn
import Derived.TacticsInMore
import Derived.LoopNIn
import Derived.LoopIn
/- A law's frame: where a call answers true and nothing that was there has turned, the given row's post holds, whatever the arguments are made of. -/
namespace Go.Proofs.Ytekpejemfkjhcaa
open Go.ChangeShapes Go.WideShapes Go.ChangeAt Go.RowKit
set_option maxRecDepth 100000
set_option linter.unusedVariables false

theorem own : ownKnob Try.prog.godebug = none := by kernel_rfl
theorem laid : laidOutB Try.prog = true := by kernel_rfl

section
variable {H : Type} {enc : TypeId × Value → H} {P : Program}

theorem all_stay (hl : laidOutB P = true) {W W' : World} (hb : Below W.heap.size W W') {sp : Nat → Bool} :
    ∀ (ts : List TypeId) (vs : List Value) (ds : List (DataW H)) (ps : List MemPlace), (∀ t ∈ ts, P.readableRec t = true ∧ t < P.types.size) →
      DataW.TrodAll enc P W 0 (fun _ => true) true ts vs ds ps → (∀ x ∈ ps, x.block < W.heap.size) → (∀ x ∈ ps, sp x.block = true) → DataW.TrodAll enc P W' 0 sp true ts vs ds ps
  | [], [], [], ps, _, h, _, _ => h
  | [], [], _ :: _, _, _, h, _, _ => h.elim
  | [], _ :: _, _, _, _, h, _, _ => h.elim
  | _ :: _, [], _, _, _, h, _, _ => h.elim
  | _ :: _, _ :: _, [], _, _, h, _, _ => h.elim
  | t :: ts, v :: vs, d :: ds, ps, hr, h, hlt, hsp => by
    obtain ⟨p, q, h1, h2, rfl⟩ := h
    have ht := hr t (by simp)
    refine ⟨p, q, WideElems.Trod_stays hl ht.1 ht.2 h1 (fun x hx => hb.same (hlt x (by simp [hx]))) (fun x hx => hsp x (by simp [hx])), ?_, rfl⟩
    exact all_stay hl hb ts vs ds q (fun t' ht' => hr t' (by simp [ht'])) h2 (fun x hx => hlt x (by simp [hx])) (fun x hx => hsp x (by simp [hx]))

theorem law_post {f : Func} {s : ChangeSpec} {apart fresh handsOn again : Bool} {W W' : World} {args : Array Value} {ds gs : List (DataW H)} {before : List MemPlace} {tb : TypeId}
    (hl : laidOutB P = true) (hts : ∀ t ∈ f.params.toList, P.readableRec t = true ∧ t < P.types.size) (hv : s.vars = [])
    (hW : DataW.Whole enc P f.params.toList s.vars apart W args.toList ds gs before)
    (hs : (s.fn H (ds ++ gs)).results = [.lit (.bool true)] ∧ (s.fn H (ds ++ gs)).args = ds ∧ (s.fn H (ds ++ gs)).vars = [])
    (hr : f.resultTypes = #[tb]) (htb : P.underlying tb = some .bool) (hb : Below W.heap.size W W') :
    s.post enc P f apart fresh handsOn again W args (.bool true) W' := by
  have hlt : ∀ p ∈ before, p.block < W.heap.size := fun p hp => hW.lt p hp
  have hW0 := hW
  obtain ⟨p, q, h1, h2, e, hz, hn⟩ := hW
  rw [hv] at h2
  cases gs with
  | cons _ _ => exact h2.elim
  | nil =>
    have hq : q = [] := h2
    subst hq
    simp only [List.append_nil] at e
    subst e
    have stay : ∀ sp : Nat → Bool, (∀ x ∈ before, sp x.block = true) → DataW.TrodAll enc P W' 0 sp true f.params.toList args.toList (s.fn H (ds ++ [])).args before :=
      fun sp hsp => by rw [hs.2.1]; exact all_stay hl hb _ _ _ _ hts h1 hlt hsp
    have vars : ∀ sp : Nat → Bool, DataW.TrodVars enc P W' sp s.vars (s.fn H (ds ++ [])).vars [] := fun sp => by rw [hs.2.2, hv]; rfl
    have res : ∀ (b : Nat) (sp : Nat → Bool) (hd : Bool), DataW.TrodAll enc P W' b sp hd f.resultTypes.toList ((Value.bool true).resultList f.resultTypes.size) (s.fn H (ds ++ [])).results [] := by
      intro b sp hd
      rw [hs.1, hr]
      exact trodAll_mk1 (shut_bool htb true)
    refine ⟨ds, [], before, [], before, [], hW0, res _ _ _, stay _ (fun x hx => by simpa using hlt x hx), vars _, ?_, fun _ => ?_⟩
    · exact World.keptBut_mono (fun x hx => ⟨hx, by simpa using hx⟩) (hb.frame (· ∈ before))
    · refine ⟨?_, _, _, ([] ++ before) ++ [], ⟨[] ++ before, [], trodAll_append (stay _ (fun _ _ => rfl)) (res _ _ _), vars _, rfl, ?_, ?_⟩, ?_⟩
      · exact ok_one hr rfl (okWide_bool_mk htb true)
      · intro b off hp
        have hin : MemPlace.cell b off ∈ before := by simpa using hp
        rw [hb.frozen (hlt _ hin)]
        exact hz b off hin
      · intro ha
        simpa using hn ha
      · intro x hx _
        simpa using hx
end
end Go.Proofs.Ytekpejemfkjhcaa
/-
  Plain facts on whole numbers of 64 bits, checked sums and wraps. No program in sight.
-/
namespace Go.Proofs.Ytekpejemfkjhcaa
open Go.RowKit

/-- Kept from the walk, which takes every equation that stands open for a rule. -/
theorem hid {p : Prop} (h : p) : Hid p := h

/-- The numbers of 64 bits with a sign, and without one. -/
def I64 (a : Int) : Prop := -9223372036854775808 ≤ a ∧ a ≤ 9223372036854775807
def U64 (a : Int) : Prop := 0 ≤ a ∧ a ≤ 18446744073709551615
instance (a : Int) : Decidable (I64 a) := by unfold I64; infer_instance
instance (a : Int) : Decidable (U64 a) := by unfold U64; infer_instance
/-- Every one is a byte, a number of 64 bits. -/
def U8s (xs : List Int) : Prop := ∀ x ∈ xs, 0 ≤ x ∧ x ≤ 255
def U64s (xs : List Int) : Prop := ∀ x ∈ xs, U64 x
theorem U8s.app {a b : List Int} (ha : U8s a) (hb : U8s b) : U8s (a ++ b) := fun x hx => (List.mem_append.1 hx).elim (ha x) (hb x)
theorem U8s.at_ {xs : List Int} (h : U8s xs) {k : Nat} {x : Int} (hx : xs[k]? = some x) : 0 ≤ x ∧ x ≤ 255 := h x (List.mem_of_getElem? hx)
theorem U8s.take {xs : List Int} (h : U8s xs) (k : Nat) : U8s (xs.take k) := fun x hx => h x (List.mem_of_mem_take hx)
theorem U8s.drop {xs : List Int} (h : U8s xs) (k : Nat) : U8s (xs.drop k) := fun x hx => h x (List.mem_of_mem_drop hx)
theorem U64s.at_ {xs : List Int} (h : U64s xs) {k : Nat} {x : Int} (hx : xs[k]? = some x) : U64 x := h x (List.mem_of_getElem? hx)
theorem U64s.take {xs : List Int} (h : U64s xs) (k : Nat) : U64s (xs.take k) := fun x hx => h x (List.mem_of_mem_take hx)
theorem I64.of_wf {a : Int} (h : (Lit.int .i64 a).wf = true) : I64 a := by
  have := bounds_i64 h; unfold I64; omega

/-- What a checked result is: the number, if it has a place in 64 bits; its error. -/
def ckV (s : Int) : Int := if I64 s then s else 0
def ckE (s : Int) : Int := if I64 s then 0 else 2

theorem ckV_in {s : Int} (h : I64 s) : ckV s = s := by unfold ckV; rw [if_pos h]
theorem ckE_in {s : Int} (h : I64 s) : ckE s = 0 := by unfold ckE; rw [if_pos h]
theorem ckV_out {s : Int} (h : ¬ I64 s) : ckV s = 0 := by unfold ckV; rw [if_neg h]
theorem ckE_out {s : Int} (h : ¬ I64 s) : ckE s = 2 := by unfold ckE; rw [if_neg h]
theorem ckV_i64 (s : Int) : I64 (ckV s) := by
  unfold ckV; split
  · assumption
  · unfold I64; omega
theorem ckE_cases (s : Int) : (ckE s = 0 ∧ I64 s ∧ ckV s = s) ∨ (ckE s = 2 ∧ ¬ I64 s ∧ ckV s = 0) := by
  by_cases h : I64 s
  · exact Or.inl ⟨ckE_in h, h, ckV_in h⟩
  · exact Or.inr ⟨ckE_out h, h, ckV_out h⟩

theorem ret2 {k k' : IntKind} {x y x' y' : Int} (h1 : x = x') (h2 : y = y') : Ending.returned (Value.tuple #[.int k x, .int k' y]) = Ending.returned (Value.tuple #[.int k x', .int k' y']) := by rw [h1, h2]
theorem wrap64_eq (s : Int) : wrap64 s = (s + 9223372036854775808) % 18446744073709551616 - 9223372036854775808 := by unfold wrap64; omega
theorem I64.wrap (s : Int) : I64 (wrap64 s) := by unfold I64; rw [wrap64_eq]; omega
theorem I64.wrap_in {s : Int} (h : I64 s) : wrap64 s = s := by unfold I64 at h; rw [wrap64_eq]; omega

theorem add_w1 {a b : Int} (ha : I64 a) (hb : I64 b) (h : (!decide (wrap64 (a + b) < a) == decide (b < 0)) = true) : ¬ I64 (a + b) := by
  unfold I64 at *; rw [wrap64_eq] at h
  by_cases c1 : (a + b + 9223372036854775808) % 18446744073709551616 - 9223372036854775808 < a <;> by_cases c2 : b < 0 <;> simp [c1, c2] at h <;> omega
theorem add_w2 {a b : Int} (ha : I64 a) (hb : I64 b) (h : (!decide (wrap64 (a + b) < a) == decide (b < 0)) = false) : I64 (a + b) := by
  unfold I64 at *; rw [wrap64_eq] at h
  by_cases c1 : (a + b + 9223372036854775808) % 18446744073709551616 - 9223372036854775808 < a <;> by_cases c2 : b < 0 <;> simp [c1, c2] at h <;> omega
theorem sub_w1 {a b : Int} (ha : I64 a) (hb : I64 b) (h : (!decide (a < wrap64 (a - b)) == decide (b < 0)) = true) : ¬ I64 (a - b) := by
  unfold I64 at *; rw [wrap64_eq] at h
  by_cases c1 : a < (a - b + 9223372036854775808) % 18446744073709551616 - 9223372036854775808 <;> by_cases c2 : b < 0 <;> simp [c1, c2] at h <;> omega
theorem sub_w2 {a b : Int} (ha : I64 a) (hb : I64 b) (h : (!decide (a < wrap64 (a - b)) == decide (b < 0)) = false) : I64 (a - b) := by
  unfold I64 at *; rw [wrap64_eq] at h
  by_cases c1 : a < (a - b + 9223372036854775808) % 18446744073709551616 - 9223372036854775808 <;> by_cases c2 : b < 0 <;> simp [c1, c2] at h <;> omega
theorem ck_out2 {s : Int} (h : ¬ I64 s) : Ending.returned (Value.tuple #[.int .i64 0, .int .i64 2]) = Ending.returned (Value.tuple #[.int .i64 (ckV s), .int .i64 (ckE s)]) := ret2 (ckV_out h).symm (ckE_out h).symm
theorem ck_wrap2 {s : Int} (h : I64 s) : Ending.returned (Value.tuple #[.int .i64 (wrap64 s), .int .i64 0]) = Ending.returned (Value.tuple #[.int .i64 (ckV s), .int .i64 (ckE s)]) := ret2 ((I64.wrap_in h).trans (ckV_in h).symm) (ckE_in h).symm
theorem ck_in2 {s : Int} (h : I64 s) : Ending.returned (Value.tuple #[.int .i64 s, .int .i64 0]) = Ending.returned (Value.tuple #[.int .i64 (ckV s), .int .i64 (ckE s)]) := ret2 (ckV_in h).symm (ckE_in h).symm

/-- A number's size. -/
def absI (a : Int) : Int := if a < 0 then -a else a

end Go.Proofs.Ytekpejemfkjhcaa
/- Words for memory: a slice that reads as a list; a call's answer in memory of its own; number by number, up to the first error. -/
namespace Go.Proofs.Ytekpejemfkjhcaa
open Go.RowKit
set_option maxHeartbeats 400000
set_option maxRecDepth 100000
set_option linter.unusedVariables false
theorem info_i64 : (Try.prog.info? 2).map (fun i => (i.zero, i.size, i.bytes)) = some (some (.int .i64 0), 1, 8) := by kernel_rfl
def seqE (num : Nat → Int × Int) : Nat → Int
  | 0 => 0
  | n + 1 => if seqE num n = 0 then (num n).2 else seqE num n
theorem seqE_stays {num : Nat → Int × Int} {k : Nat} (h : seqE num k ≠ 0) : ∀ n, k ≤ n → seqE num n = seqE num k
  | 0, hn => by have : k = 0 := by omega
                subst this; rfl
  | n + 1, hn => by
    by_cases e : k = n + 1
    · rw [e]
    · have := seqE_stays h n (by omega)
      show (if seqE num n = 0 then (num n).2 else seqE num n) = _
      rw [this, if_neg h]
def seqV (num : Nat → Int × Int) (n : Nat) : List Int := if seqE num n = 0 then (List.range n).map fun k => (num k).1 else []
/-- A call's answer: a list of numbers, in memory of the call's own, and an error; nothing that was there has turned. -/
def OwnInts (xs : List Int) (er : Int) (w : World) (e : Ending) (w' : World) : Prop :=
  ∃ A c, e = .returned (.tuple #[.slice A xs.length c, .int .i64 er]) ∧ w'.ownsRow w.heap.size 2 1 (.slice A xs.length c) xs.length (xs.map (Value.int .i64)) ∧ Below w.heap.size w w'
theorem own_made {w w' : World} {n : Nat} {f : Nat → Value} {e : TypeId} {B b : Nat} (h : w.rowIs b e n f) (hB : B ≤ b) (hn : n ≤ maxLen) :
    w.ownsRow B e 1 (.slice (some ⟨b, 0, none⟩) n n) n ((List.range n).map f) := by
  obtain ⟨c, hb, hs, hc⟩ := h
  refine ⟨by simp, .inr ⟨b, n, c, rfl, hB, hb, Nat.le_refl _, hn, by omega, ?_⟩⟩
  apply List.ext_getElem?
  intro i
  by_cases hi : i < n
  · rw [List.getElem?_take_of_lt (by omega), Array.getElem?_toList, hc i hi]
    simp [hi]
  · rw [List.getElem?_eq_none (by simp; omega), List.getElem?_eq_none (by simp; omega)]
theorem own_nil (w : World) (B : Nat) (e : TypeId) : w.ownsRow B e 1 (.slice none 0 0) 0 [] := World.ownsRow_nil w B e 1

/-- A slice at A, whatever its capacity, reads as these things, in blocks below B. -/
def Rd {α : Type} (enc : α → Value) (w : World) (B : Nat) (A : Option Addr) (xs : List α) : Prop :=
  ∀ k x, xs[k]? = some x → ∃ b off, A = some ⟨b, off, none⟩ ∧ b < B ∧ w.cell? ⟨b, off + k, none⟩ = some (enc x)
section
variable {α : Type} {enc : α → Value} {w w' : World} {B B' : Nat} {A : Option Addr} {xs : List α}
theorem Rd.keep (h : Rd enc w B A xs) (hk : ∀ p : Addr, p.block < B → w'.cell? p = w.cell? p) : Rd enc w' B A xs := fun k x hx => by
  obtain ⟨b, off, e, hb, hc⟩ := h k x hx
  exact ⟨b, off, e, hb, (hk _ hb).trans hc⟩
theorem Rd.below (h : Rd enc w B A xs) (hb : Below B w w') : Rd enc w' B A xs := h.keep fun _ hp => hb.cell hp
theorem Rd.more (h : Rd enc w B A xs) (hB : B ≤ B') : Rd enc w B' A xs := fun k x hx => by
  obtain ⟨b, off, e, hb, hc⟩ := h k x hx
  exact ⟨b, off, e, by omega, hc⟩
/-- To a world from which nothing below its own start has turned. -/
theorem Rd.on (h : Rd enc w w.heap.size A xs) (hb : Below w.heap.size w w') : Rd enc w' w'.heap.size A xs := (h.below hb).more hb.size
theorem Rd.drewN (h : Rd enc w B A xs) (n : Nat) : Rd enc (w.drewN n) B A xs := h
theorem Rd.none_ : Rd enc w B A ([] : List α) := fun k x hx => by simp at hx
theorem Rd.at_ (h : Rd enc w B A xs) {k : Nat} (hk : k < xs.length) : ∃ b off x, A = some ⟨b, off, none⟩ ∧ b < B ∧ xs[k]? = some x ∧ w.cell? ⟨b, off + k, none⟩ = some (enc x) := by
  obtain ⟨b, off, e, hb, hc⟩ := h k xs[k] (List.getElem?_eq_getElem hk)
  exact ⟨b, off, xs[k], e, hb, List.getElem?_eq_getElem hk, hc⟩
theorem Rd.of_own {base n c : Nat} {e : TypeId} (h : w.ownsRow base e 1 (.slice A n c) n (xs.map enc)) : Rd enc w w.heap.size A xs := fun k x hx => by
  have hl : xs.length = n := by simpa using h.1
  have hk : k < xs.length := (List.getElem?_eq_some_iff.1 hx).1
  rcases h.2 with ⟨h', h0⟩ | ⟨g, cap, cur, h', _, hg, _⟩
  · omega
  · simp only [Value.slice.injEq] at h'
    obtain ⟨rfl, _, rfl⟩ := h'
    refine ⟨g, 0, rfl, ?_, ?_⟩
    · exact (Array.getElem?_eq_some_iff.1 hg).1
    · rw [Nat.zero_add, h.cellAt k (by omega)]
      simp [hx]
/-- Memory of the call's own: it lies from base on, and below the heap's end. -/
theorem own_rd {base c : Nat} {e : TypeId} (h : w.ownsRow base e 1 (.slice A xs.length c) xs.length (xs.map enc)) : Rd enc w w.heap.size A xs := .of_own h
/-- It stays where only what lies above its world's end turns. -/
theorem own_on {base n c : Nat} {e : TypeId} {vs : List Value} (h : w.ownsRow base e 1 (.slice A n c) n vs) (hb : Below w.heap.size w w') : w'.ownsRow base e 1 (.slice A n c) n vs := by
  refine ⟨h.1, ?_⟩
  rcases h.2 with hn | ⟨g, cap, cur, hv, hg, hh, r⟩
  · exact .inl hn
  · exact .inr ⟨g, cap, cur, hv, hg, (hb.block g (Array.getElem?_eq_some_iff.1 hh).1).trans hh, r⟩
theorem own_lt {base n c g : Nat} {e : TypeId} {vs : List Value} (h : w.ownsRow base e 1 (.slice (some ⟨g, 0, none⟩) n c) n vs) : g < w.heap.size := (h.lt g rfl).2
theorem own_cell {base n c k : Nat} {e : TypeId} {zs : List Int} (h : w.ownsRow base e 1 (.slice A n c) n (zs.map (Value.int .i64))) (hk : k < zs.length) :
    ∃ g, A = some ⟨g, 0, none⟩ ∧ base ≤ g ∧ w.cell? ⟨g, k, none⟩ = some (.int .i64 (zs.getD k 0)) ∧ w.frozen? ⟨g, k, none⟩ = false := by
  have hl : zs.length = n := by simpa using h.1
  have h' := h
  rcases h.2 with ⟨he, h0⟩ | ⟨g, cap, cur, he, hg, _⟩
  · omega
  · simp only [Value.slice.injEq] at he
    obtain ⟨rfl, _, rfl⟩ := he
    refine ⟨g, rfl, hg, ?_, h'.frozenAt k⟩
    rw [h'.cellAt k (by omega)]
    simp [List.getD, hk]
theorem own_base {base base' n c : Nat} {e : TypeId} {vs : List Value} (h : w.ownsRow base e 1 (.slice A n c) n vs) (hb : base' ≤ base) : w.ownsRow base' e 1 (.slice A n c) n vs := by
  refine ⟨h.1, ?_⟩
  rcases h.2 with hn | ⟨g, cap, cur, hv, hg, r⟩
  · exact .inl hn
  · exact .inr ⟨g, cap, cur, hv, by omega, r⟩
end
theorem lt_of_cell {w : World} {p : Addr} {v : Value} (h : w.cell? p = some v) : p.block < w.heap.size := by
  rcases Nat.lt_or_ge p.block w.heap.size with hlt | hge
  · exact hlt
  · rw [World.cell?, Array.getElem?_eq_none hge] at h; cases h
/-- Every one is an int64. -/
def I64s (xs : List Int) : Prop := ∀ x ∈ xs, I64 x
theorem I64s.at_ {xs : List Int} (h : I64s xs) {k : Nat} {x : Int} (hx : xs[k]? = some x) : I64 x := h x (List.mem_of_getElem? hx)
theorem getD_of {xs : List Int} {k : Nat} {x : Int} (hx : xs[k]? = some x) : xs.getD k 0 = x := by simp [List.getD, hx]
/-- Below: what a call leaves as it was, as the walk asks it. -/
theorem bcells {W w1 : World} (hb : Below W.heap.size W w1) : (∀ b o, b < W.heap.size → w1.cell? ⟨b, o, none⟩ = W.cell? ⟨b, o, none⟩) ∧ (∀ b o, b < W.heap.size → w1.frozen? ⟨b, o, none⟩ = W.frozen? ⟨b, o, none⟩) :=
  ⟨fun b o h => hb.cell (p := ⟨b, o, none⟩) h, fun b o h => hb.frozen (p := ⟨b, o, none⟩) h⟩
/-- Numbers added up, up to the first error. -/
def tot (num : Nat → Int × Int) : Nat → Int × Int
  | 0 => (0, 0)
  | n + 1 => if (tot num n).2 = 0 then (if (num n).2 = 0 then (ckV ((tot num n).1 + (num n).1), ckE ((tot num n).1 + (num n).1)) else (0, (num n).2)) else tot num n
theorem tot_stays {num : Nat → Int × Int} {k : Nat} (h : (tot num k).2 ≠ 0) : ∀ n, k ≤ n → tot num n = tot num k
  | 0, hn => by have : k = 0 := by omega
                subst this; rfl
  | n + 1, hn => by
    by_cases e : k = n + 1
    · rw [e]
    · have := tot_stays h n (by omega)
      rw [tot, this, if_neg h]
end Go.Proofs.Ytekpejemfkjhcaa
/- Words that every layer's walks use: quiet calls, blocks just laid, lists that are the same. -/
namespace Go.Proofs.Ytekpejemfkjhcaa
open Go.RowKit
set_option maxHeartbeats 400000
set_option maxRecDepth 100000
set_option linter.unusedVariables false
theorem quietL {P : Program} {f : FuncId} {args : Array Value} {w : World} {v : Value} (h : ∀ W : World, Calls P f args W fun e w' => e = .returned v ∧ W = w') (n : Nat) :
    Calls P f args (w.drewN n) fun e w' => e = .returned v ∧ ∃ m, w' = w.drewN m := (h _).mono fun _ _ ⟨he, hm⟩ => ⟨he, n, hm.symm⟩
theorem belowN (B : Nat) (w : World) (n : Nat) : Below B w (w.drewN n) := ⟨rfl, rfl, rfl, Nat.le_refl _, fun _ _ => rfl⟩
theorem below_step {B : Nat} {w W w1 : World} (h0 : Below B w W) (h1 : Below W.heap.size W w1) (hB : B ≤ w.heap.size) : Below B w w1 := h0.trans (h1.mono (Nat.le_trans hB h0.size))
theorem two_cells (w : World) (u v : Value) (t s : TypeId) :
    ((w.alloc (.cells #[u] t)).alloc (.cells #[v] s)).cell? ⟨w.heap.size, 0, none⟩ = some u ∧ ((w.alloc (.cells #[u] t)).alloc (.cells #[v] s)).cell? ⟨w.heap.size + 1, 0, none⟩ = some v ∧
      Below w.heap.size w ((w.alloc (.cells #[u] t)).alloc (.cells #[v] s)) := by
  refine ⟨?_, ?_, by go_grown⟩ <;> simp [go_sem]
theorem one_cell (w : World) (u : Value) (t : TypeId) : (w.alloc (.cells #[u] t)).cell? ⟨w.heap.size, 0, none⟩ = some u ∧ Below w.heap.size w (w.alloc (.cells #[u] t)) := by
  refine ⟨?_, by go_grown⟩; simp [go_sem]
/-- Are they the same? -/
def eqB (xs ys : List Int) : Bool := decide (xs = ys)
theorem take_step {xs ys : List Int} {k : Nat} {x y : Int} (h : xs.take k = ys.take k) (hx : xs[k]? = some x) (hy : ys[k]? = some y) (e : x = y) : xs.take (k + 1) = ys.take (k + 1) := by
  rw [List.take_add_one, List.take_add_one, h, hx, hy, e]
theorem eqB_no {xs ys : List Int} {k : Nat} {x y : Int} (hx : xs[k]? = some x) (hy : ys[k]? = some y) (e : x ≠ y) : eqB xs ys = false := by
  unfold eqB
  rw [decide_eq_false_iff_not]
  rintro rfl
  rw [hx] at hy
  exact e (Option.some.inj hy)
theorem eqB_yes {xs ys : List Int} {k : Nat} (h : xs.take k = ys.take k) (hx : k = xs.length) (hl : xs.length = ys.length) : eqB xs ys = true := by
  unfold eqB
  rw [List.take_of_length_le (by omega), List.take_of_length_le (by omega)] at h
  simpa using h
theorem eqB_len {xs ys : List Int} (h : xs.length ≠ ys.length) : eqB xs ys = false := by
  unfold eqB
  rw [decide_eq_false_iff_not]
  rintro rfl
  exact h rfl
theorem eqB_self (xs : List Int) : eqB xs xs = true := by unfold eqB; simp
theorem rd_block {α : Type} {enc : α → Value} {w : World} {b : Nat} {t : TypeId} (xs : List α) (fr : Nat × Nat) (h : w.heap[b]? = some (.cells (xs.map enc).toArray t fr)) : Rd enc w w.heap.size (some ⟨b, 0, none⟩) xs := fun k x hx => by
  refine ⟨b, 0, rfl, (Array.getElem?_eq_some_iff.1 h).1, ?_⟩
  have hk := (List.getElem?_eq_some_iff.1 hx)
  rw [Nat.zero_add, cell_of_row w b k _ t fr h]
  simp [hx]
theorem rd_new {α : Type} {enc : α → Value} (w : World) (t : TypeId) (xs : List α) : Rd enc (w.alloc (.cells (xs.map enc).toArray t)) (w.alloc (.cells (xs.map enc).toArray t)).heap.size (some ⟨w.heap.size, 0, none⟩) xs := rd_block xs (0, 0) (heap_alloc_new w _)
/-- What the call's own list's room is. -/
theorem own_cap {w : World} {base n c : Nat} {e : TypeId} {A : Option Addr} {vs : List Value} (h : w.ownsRow base e 1 (.slice A n c) n vs) : n ≤ c ∧ c ≤ 9223372036854775807 := by
  rcases h.2 with ⟨he, h0⟩ | ⟨g, cap, cur, he, _, _, h1, h2, _⟩
  · simp only [Value.slice.injEq] at he
    omega
  · simp only [Value.slice.injEq] at he
    unfold maxLen at h2
    omega
theorem own_cellk {w : World} {q : IntKind} {A : Option Addr} {base n c k : Nat} {e : TypeId} {zs : List Int} (h : w.ownsRow base e 1 (.slice A n c) n (zs.map (Value.int q))) (hk : k < zs.length) :
    ∃ g, A = some ⟨g, 0, none⟩ ∧ base ≤ g ∧ w.cell? ⟨g, k, none⟩ = some (.int q (zs.getD k 0)) ∧ w.frozen? ⟨g, k, none⟩ = false := by
  have hl : zs.length = n := by simpa using h.1
  have h' := h
  rcases h.2 with ⟨he, h0⟩ | ⟨g, cap, cur, he, hg, _⟩
  · omega
  · simp only [Value.slice.injEq] at he
    obtain ⟨rfl, _, rfl⟩ := he
    refine ⟨g, rfl, hg, ?_, h'.frozenAt k⟩
    rw [h'.cellAt k (by omega)]
    simp [List.getD, hk]
/-- Room made ahead. -/
theorem run_room {P : Program} (t e : TypeId) (z : Value) (bytes : Nat) (ht : P.underlying t = some (.slice e)) (hinfo : (P.info? e).map (fun i => (i.zero, i.size, i.bytes)) = some (some z, 1, bytes)) (hz1 : z.cells = #[z])
    (c : Nat) (hbytes : bytes * c ≤ 281474976710656) (h63 : c ≤ 9223372036854775807) (w : World) :
    (Instr.makeSlice t (.int .i64 0) (.int .i64 (c : Int))).run P w = .ok (.slice (some ⟨w.heap.size, 0, none⟩) 0 c) (w.alloc (.cells (madeCells #[z] c) e)) := by
  obtain ⟨i, hi, hzz⟩ := Option.map_eq_some_iff.1 hinfo
  simp only [Prod.mk.injEq] at hzz
  obtain ⟨hz, hs, hb⟩ := hzz
  have h : ((i.bytes * c : Nat) : Int) ≤ 281474976710656 := by rw [hb]; omega
  have hr := run_make (P := P) w t e i z ht hi hz .i64 .i64 0 c (Int.le_refl _) (by omega) (by rwa [Int.natCast_mul] at h) (by omega)
  simp only [Int.toNat_natCast, hs, Nat.mul_one, hz1, Int.toNat_zero] at hr
  exact hr
theorem own_room (w : World) (t : TypeId) (z : Value) (c : Nat) (hc : c ≤ maxLen) {B : Nat} (hB : B ≤ w.heap.size) :
    (w.alloc (.cells (madeCells #[z] c) t)).ownsRow B t 1 (.slice (some ⟨w.heap.size, 0, none⟩) 0 c) 0 [] :=
  World.ownsRow_made w _ c hB hc (by rw [size_madeCells, Nat.mul_one])
/-- Where what is left of a slice lies. -/
def cutA (A : Option Addr) (k c : Nat) : Option Addr := if c = k then A else A.map (·.add k)
theorem run_from {P : Program} (t : TypeId) (ht : P.underlying t = some (.slice (P.elem t))) (hs : ∀ w, (sizeOf (P.elem t)).run P w = .ok 1 w) (A : Option Addr) (len c k : Nat) (hk : k ≤ len) (hc : len ≤ c) (w : World) :
    (Instr.slice t (.slice A len c) (some (.int .i64 (k : Int))) none none).run P w = .ok (.slice (cutA A k c) (len - k) (c - k)) w := by
  rw [run_slice_l w t A len c ht .i64 (k : Int) (by omega) (by omega)]
  simp [hs, sliced, cutA, Result.andThen]
theorem run_upto {P : Program} (t : TypeId) (ht : P.underlying t = some (.slice (P.elem t))) (hs : ∀ w, (sizeOf (P.elem t)).run P w = .ok 1 w) (A : Option Addr) (len c k : Nat) (hk : k ≤ c) (w : World) :
    (Instr.slice t (.slice A len c) none (some (.int .i64 (k : Int))) none).run P w = .ok (.slice (cutA A 0 c) k c) w := by
  rw [run_slice_h w t A len c ht .i64 (k : Int) (by omega) (by omega)]
  simp [hs, sliced, cutA, Result.andThen]
theorem run_part {P : Program} (t : TypeId) (ht : P.underlying t = some (.slice (P.elem t))) (hs : ∀ w, (sizeOf (P.elem t)).run P w = .ok 1 w) (A : Option Addr) (len c k j : Nat) (hk : k ≤ j) (hj : j ≤ c) (w : World) :
    (Instr.slice t (.slice A len c) (some (.int .i64 (k : Int))) (some (.int .i64 (j : Int))) none).run P w = .ok (.slice (cutA A k c) (j - k) (c - k)) w := by
  rw [run_slice_lh w t A len c ht .i64 .i64 (k : Int) (j : Int) (by omega) (by omega) (by omega)]
  simp [hs, sliced, cutA, Result.andThen]
theorem Rd.cut {α : Type} {enc : α → Value} {w : World} {B : Nat} {A : Option Addr} {xs : List α} {c : Nat} (h : Rd enc w B A xs) (k : Nat) (hc : xs.length ≤ c) : Rd enc w B (cutA A k c) (xs.drop k) := fun j x hx => by
  unfold cutA
  by_cases e : c = k
  · rw [List.drop_eq_nil_of_le (by omega)] at hx
    simp at hx
  · rw [if_neg e]
    rw [List.getElem?_drop] at hx
    obtain ⟨b, off, rfl, hb, hc⟩ := h (k + j) x hx
    refine ⟨b, off + k, by simp [Go.WideShapes.add_plain], hb, ?_⟩
    rw [Nat.add_assoc]
    exact hc
theorem Rd.some_cut {α : Type} {enc : α → Value} {w : World} {B : Nat} {A : Option Addr} {xs : List α} (h : Rd enc w B A xs) (k : Nat) : Rd enc w B A (xs.take k) := fun j x hx => h j x (by
  rw [List.getElem?_take] at hx
  split at hx
  · exact hx
  · simp at hx)
theorem Rd.cut0 {α : Type} {enc : α → Value} {w : World} {B : Nat} {A : Option Addr} {xs : List α} {c : Nat} (h : Rd enc w B A xs) (hc : xs.length ≤ c) (k : Nat) : Rd enc w B (cutA A 0 c) (xs.take k) := by
  have := (h.cut 0 hc).some_cut k
  rwa [List.drop_zero] at this
end Go.Proofs.Ytekpejemfkjhcaa
/- An argument that is a list of whole numbers of one kind, opened. -/
namespace Go.Proofs.Ytekpejemfkjhcaa
open Go.ChangeShapes Go.WideShapes Go.ChangeAt Go.RowKit
set_option maxRecDepth 100000
set_option linter.unusedVariables false
section
variable {H : Type} {enc : TypeId × Value → H} {P : Program} {W : World}
theorem nums_rd {k : IntKind} {a : Addr} {zs xs : List Int} {m : Nat} (hm : xs = zs.take m) (hc : ∀ i, i < m → W.cell? (a.add i) = some (.int k (zs.getD i 0))) : Rd (Value.int k) W W.heap.size (some a) xs := fun j x hx => by
  subst hm
  have hk : j < (zs.take m).length := (List.getElem?_eq_some_iff.1 hx).1
  have hkm : j < m := by rw [List.length_take] at hk; omega
  obtain ⟨b, off, spot⟩ := a
  have hs : spot = none := by simpa [Addr.add] using World.cell?_spot (hc 0 (by omega))
  subst hs
  have h := hc j hkm
  rw [Go.WideShapes.add_plain] at h
  have hz : zs.getD j 0 = x := by
    rw [List.getElem?_take_of_lt hkm] at hx
    simp [List.getD, hx]
  rw [hz] at h
  exact ⟨b, off, rfl, lt_of_cell h, h⟩
theorem open_nums {k : IntKind} {r : Reach} {t e : TypeId} {v : Value} {d : DataW H} {ps : List MemPlace} (ht : P.underlying t = some (.slice e)) (he : P.underlying e = some (.int k)) (hc : P.cellsOf e = 1) {b0 : Nat}
    (hval : Value.okWide P W r b0 t v) (hd : DataW.Trod enc P W 0 (fun _ => true) true t v d ps) :
    ∃ A xs c, v = .slice A xs.length c ∧ Rd (Value.int k) W W.heap.size A xs ∧ (∀ x ∈ xs, (Lit.int k x).wf = true) ∧ xs.length ≤ c ∧ c ≤ 9223372036854775807 := by
  obtain ⟨A, len, cap, rfl⟩ := okWide_slice ht hval
  obtain ⟨fuel, hf⟩ := hd
  rcases open_ints ht he hc hf with ⟨hcs, _⟩ | ⟨a, len', cap', zs, hcs, _, hl, hm, hz, _, hcell, hwz⟩
  · simp [Value.cells] at hcs
    obtain ⟨rfl, rfl, rfl⟩ := hcs
    exact ⟨none, [], 0, rfl, Rd.none_, by intro x hx; simp at hx, by simp, by omega⟩
  · simp [Value.cells] at hcs
    obtain ⟨rfl, rfl, rfl⟩ := hcs
    simp only [if_true] at hz
    have hlen : (zs.take len).length = len := by rw [List.length_take]; omega
    refine ⟨some a, zs.take len, cap, by rw [hlen], nums_rd rfl fun i hi => hcell i (by omega), fun x hx => hwz x (List.mem_of_mem_take hx), by omega, by unfold maxLen at hm; omega⟩
theorem U64.of_wf {a : Int} (h : (Lit.int .u64 a).wf = true) : U64 a := by
  simp [Lit.wf, IntKind.min, IntKind.max, IntKind.signed, IntKind.bits] at h
  unfold U64; omega
theorem U32.of_wf {a : Int} (h : (Lit.int .u32 a).wf = true) : 0 ≤ a ∧ a ≤ 4294967295 := by
  simp [Lit.wf, IntKind.min, IntKind.max, IntKind.signed, IntKind.bits] at h
  omega
end
end Go.Proofs.Ytekpejemfkjhcaa
namespace Go.Proofs.Ytekpejemfkjhcaa
open Go.RowKit
set_option maxHeartbeats 400000
set_option maxRecDepth 100000
set_option linter.unusedVariables false
theorem fix_Add (a b : Int) (ha : I64 a) (hb : I64 b) (w : World) :
    Calls Try.prog 46 #[.int .i64 a, .int .i64 b] w fun e w' => e = .returned (.tuple #[.int .i64 (ckV (a + b)), .int .i64 (ckE (a + b))]) ∧ w = w' := by
  go_enter Try.func46, Try.ntmps46
  go_wp2
  · go_ret2; exact ⟨ck_out2 (add_w1 ha hb (by assumption)), rfl⟩
  · go_ret2; exact ⟨ck_wrap2 (add_w2 ha hb (by assumption)), rfl⟩
theorem fix_Sub (a b : Int) (ha : I64 a) (hb : I64 b) (w : World) :
    Calls Try.prog 69 #[.int .i64 a, .int .i64 b] w fun e w' => e = .returned (.tuple #[.int .i64 (ckV (a - b)), .int .i64 (ckE (a - b))]) ∧ w = w' := by
  go_enter Try.func69, Try.ntmps69
  go_wp2
  · go_ret2; exact ⟨ck_out2 (sub_w1 ha hb (by assumption)), rfl⟩
  · go_ret2; exact ⟨ck_wrap2 (sub_w2 ha hb (by assumption)), rfl⟩
theorem ref_Add (a b : Int) (ha : I64 a) (hb : I64 b) (w : World) :
    Calls Try.prog 50 #[.int .i64 a, .int .i64 b] w fun e w' => e = .returned (.tuple #[.int .i64 (ckV (a + b)), .int .i64 (ckE (a + b))]) ∧ w = w' := by
  unfold I64 at ha hb
  go_enter Try.func50, Try.ntmps50
  go_wp2
  all_goals
    go_ret2
    first
    | (refine ⟨ck_out2 ?_, rfl⟩; unfold I64; omega)
    | (refine ⟨ck_in2 ?_, rfl⟩; unfold I64; omega)
    | (refine ⟨ck_wrap2 ?_, rfl⟩; unfold I64; omega)
theorem ref_Sub (a b : Int) (ha : I64 a) (hb : I64 b) (w : World) :
    Calls Try.prog 34 #[.int .i64 a, .int .i64 b] w fun e w' => e = .returned (.tuple #[.int .i64 (ckV (a - b)), .int .i64 (ckE (a - b))]) ∧ w = w' := by
  unfold I64 at ha hb
  go_enter Try.func34, Try.ntmps34
  go_wp2
  all_goals
    go_ret2
    first
    | (refine ⟨ck_out2 ?_, rfl⟩; unfold I64; omega)
    | (refine ⟨ck_in2 ?_, rfl⟩; unfold I64; omega)
    | (refine ⟨ck_wrap2 ?_, rfl⟩; unfold I64; omega)
end Go.Proofs.Ytekpejemfkjhcaa
/- Number by number, and all added up: each number told by a function value. -/
namespace Go.Proofs.Ytekpejemfkjhcaa
open Go.RowKit
set_option maxHeartbeats 400000
set_option maxRecDepth 100000
set_option linter.unusedVariables false
theorem list_any (K : FuncId) (caps : Array Value) (n : Nat) (hn : n ≤ 4096) (w : World) (num : Nat → Int × Int)
   (hK : ∀ (args : Array Value) (W : World), (callFunc K args).run Try.prog W = .ok (.enter K args) W)
   (H : ∀ k, k < n → ∀ W, Below w.heap.size w W → Calls Try.prog K (#[.int .i64 k] ++ caps) W fun e w' => e = .returned (.tuple #[.int .i64 (num k).1, .int .i64 (num k).2]) ∧ Below W.heap.size W w') :
    Calls Try.prog 81 #[.int .i64 n, .func (.func K) #[] caps] w (OwnInts (seqV num n) (seqE num n) w) := by
  have hmk := fun W => run_make_row' (P := Try.prog) 22 2 (.int .i64 0) 8 Try.underlying22 info_i64 rfl .i64 .i64 n (by omega) (by omega) W
  have HH := hid H
  clear H
  go_enter Try.func81, Try.ntmps81
  go_wp2_with fail
  go_loopw [14] (fun i wr => ∃ k : Nat, k ≤ n ∧ i = .int .i64 k ∧ seqE num k = 0 ∧ wr.rowIs w.heap.size 2 n (fun j => if j < k then .int .i64 (num j).1 else .int .i64 0) ∧ Below w.heap.size w wr) (fun i _ => n - (intOf i).toNat)
  case atStart => exact ⟨0, by omega, rfl, rfl, by simpa using World.rowIs_made w (.int .i64 0) n _, by go_grown⟩
  case round =>
    obtain ⟨k, hk, rfl, hs, hrow, hbel⟩ := hrel
    have hz := hrow.lt
    clear hmk
    have HS := hid hs
    clear hs
    by_cases hlt : k < n
    · have h := HH.out k hlt wr hbel
      obtain ⟨x, hx⟩ : ∃ x, (num k).1 = x := ⟨_, rfl⟩
      obtain ⟨er, he⟩ : ∃ x, (num k).2 = x := ⟨_, rfl⟩
      rw [hx, he] at h
      have HX := hid hx
      have HE := hid he
      clear hx he
      go_wp2_with fail
      refine h.mono ?_
      clear h
      rintro _ w1 ⟨rfl, hb1⟩
      have hbel1 := hbel.trans (hb1.mono (Nat.le_of_lt hz))
      have hrow1 := hrow.of_block (hb1.block _ hz)
      have hz1 := hrow1.lt
      have c1 := hrow1.cell hlt
      rw [if_neg (Nat.lt_irrefl k)] at c1
      have f1 := hrow1.frozen k
      by_cases her : er = 0
      · subst her
        go_wp2_with fail
        go_roundw
        case rel =>
          refine ⟨k + 1, by omega, by go_num, by unfold seqE; rw [if_pos HS.out, HE.out], ?_, hbel1.setCell (Nat.le_refl _) _⟩
          refine (hrow1.set k (.int .i64 x)).congr fun j hj => ?_
          by_cases e : j = k
          · subst e
            rw [if_pos rfl, if_pos (by omega), HX.out]
          · rw [if_neg e]
            by_cases e2 : j < k
            · rw [if_pos e2, if_pos (by omega)]
            · rw [if_neg e2, if_neg (by omega)]
        case measure => simp [intOf]; omega
      · have hne : (er != 0) = true := by simpa using her
        go_wp2_with fail
        go_ret2
        have e1 : seqE num (k + 1) = er := by unfold seqE; rw [if_pos HS.out, HE.out]
        have e2 : seqE num n = er := by rw [seqE_stays (by rw [e1]; exact her) n hlt, e1]
        have e3 : seqV num n = [] := by unfold seqV; rw [e2, if_neg her]
        rw [e2, e3]
        exact ⟨none, 0, rfl, own_nil _ _ _, hbel1⟩
    · obtain rfl : k = n := by omega
      go_wp2_with fail
      go_ret2
      have e2 := HS.out
      have e3 : seqV num k = (List.range k).map fun k => (num k).1 := by unfold seqV; rw [e2, if_pos rfl]
      rw [e2, e3]
      refine ⟨some ⟨w.heap.size, 0, none⟩, k, by simp, ?_, hbel⟩
      have := own_made (B := w.heap.size) (w' := w) (hrow.congr (g := fun j => .int .i64 (num j).1) fun i hi => by rw [if_pos hi]) (Nat.le_refl _) (by unfold maxLen; omega)
      simpa [Function.comp_def] using this
theorem total_any (K : FuncId) (caps : Array Value) (n : Nat) (hn : n ≤ 4096) (w : World) (num : Nat → Int × Int)
   (hK : ∀ (args : Array Value) (W : World), (callFunc K args).run Try.prog W = .ok (.enter K args) W) (hI : ∀ k, k < n → I64 (num k).1)
   (H : ∀ k, k < n → ∀ W, Below w.heap.size w W → Calls Try.prog K (#[.int .i64 k] ++ caps) W fun e w' => e = .returned (.tuple #[.int .i64 (num k).1, .int .i64 (num k).2]) ∧ Below W.heap.size W w') :
    Calls Try.prog 63 #[.int .i64 n, .func (.func K) #[] caps] w fun e w' => e = .returned (.tuple #[.int .i64 (tot num n).1, .int .i64 (tot num n).2]) ∧ Below w.heap.size w w' := by
  have HH := hid H
  have HI := hid hI
  clear H hI
  go_enter Try.func63, Try.ntmps63
  go_wp2_with fail
  go_loopw [6, 11] (fun s i wr => ∃ (k : Nat) (S : Int), k ≤ n ∧ i = .int .i64 k ∧ s = .int .i64 S ∧ I64 S ∧ tot num k = (S, 0) ∧ Below w.heap.size w wr) (fun _ i _ => n - (intOf i).toNat)
  case atStart => exact ⟨0, 0, by omega, rfl, rfl, by decide, rfl, by go_grown⟩
  case round =>
    obtain ⟨k, S, hk, rfl, rfl, hS, hs, hbel⟩ := hrel
    have HS := hid hs
    clear hs
    by_cases hlt : k < n
    · have h := HH.out k hlt wr hbel
      have hX := HI.out k hlt
      obtain ⟨x, hx⟩ : ∃ x, (num k).1 = x := ⟨_, rfl⟩
      obtain ⟨er, he⟩ : ∃ x, (num k).2 = x := ⟨_, rfl⟩
      rw [hx, he] at h
      rw [hx] at hX
      have HX := hid hx
      have HE := hid he
      clear hx he
      go_wp2_with fail
      refine h.mono ?_
      clear h
      rintro _ w1 ⟨rfl, hb1⟩
      have hbel1 := hbel.trans (hb1.mono hbel.size)
      by_cases her : er = 0
      · subst her
        have hA := fix_Add S x hS hX
        by_cases hin : I64 (S + x)
        · rw [ckV_in hin, ckE_in hin] at hA
          obtain ⟨T, hT⟩ : ∃ T, S + x = T := ⟨_, rfl⟩
          rw [hT] at hA hin
          have HT := hid hT
          have HA := hid hA
          clear hA hT
          go_wp2_with fail
          refine (HA.out _).mono ?_
          rintro _ _ ⟨rfl, rfl⟩
          go_wp2_with fail
          go_roundw
          case rel =>
            refine ⟨k + 1, T, by omega, by go_num, rfl, hin, ?_, hbel1⟩
            simp only [tot, HS.out, HE.out, HX.out, HT.out, if_pos, ckV_in hin, ckE_in hin]
          case measure => simp [intOf]; omega
        · rw [ckV_out hin, ckE_out hin] at hA
          have HA := hid hA
          clear hA
          go_wp2_with fail
          refine (HA.out _).mono ?_
          rintro _ _ ⟨rfl, rfl⟩
          go_wp2_with fail
          go_ret2
          have e1 : tot num (k + 1) = (0, 2) := by simp only [tot, HS.out, HE.out, HX.out, if_pos, ckV_out hin, ckE_out hin]
          rw [tot_stays (k := k + 1) (by rw [e1]; decide) n hlt, e1]
          exact ⟨rfl, hbel1⟩
      · have hne : (er != 0) = true := by simpa using her
        go_wp2_with fail
        go_ret2
        have e1 : tot num (k + 1) = (0, er) := by simp only [tot, HS.out, HE.out, if_pos, if_neg her]
        rw [tot_stays (k := k + 1) (by rw [e1]; exact her) n hlt, e1]
        exact ⟨rfl, hbel1⟩
    · obtain rfl : k = n := by omega
      go_wp2_with fail
      go_ret2
      rw [HS.out]
      exact ⟨rfl, hbel⟩
end Go.Proofs.Ytekpejemfkjhcaa
/- Plain facts on whole products: 128 bits, in an upper and a lower half. No program in sight. -/
namespace Go.Proofs.Ytekpejemfkjhcaa
open Go.RowKit
set_option maxHeartbeats 400000
def hiU (s : Int) : Int := s / 18446744073709551616 % 18446744073709551616
def loU (s : Int) : Int := s % 18446744073709551616
def I128 (s : Int) : Prop := -170141183460469231731687303715884105728 ≤ s ∧ s ≤ 170141183460469231731687303715884105727
theorem U64.wrap (a : Int) : U64 (IntKind.u64.wrap a) := by unfold U64; rw [IntKind.wrap_u64]; omega
theorem U64.hi (s : Int) : U64 (hiU s) := by unfold U64 hiU; omega
theorem U64.lo (s : Int) : U64 (loU s) := by unfold U64 loU; omega

theorem prod_shift (a b x y m n : Int) (hx : x = a + m * 18446744073709551616) (hy : y = b + n * 18446744073709551616) :
    x * y = a * b + (a * n + m * b + m * n * 18446744073709551616) * 18446744073709551616 := by
  subst hx hy
  grind
theorem u64_case {a : Int} (ha : I64 a) : (a < 0 ∧ IntKind.u64.wrap a = a + 1 * 18446744073709551616) ∨ (0 ≤ a ∧ IntKind.u64.wrap a = a + 0 * 18446744073709551616) := by
  unfold I64 at ha; rw [IntKind.wrap_u64]; omega
theorem times_nn {a b : Int} (ha : I64 a) (hb : I64 b) (h1 : a < 0) (h2 : b < 0) :
    IntKind.u64.wrap (IntKind.u64.wrap (IntKind.u64.wrap a * IntKind.u64.wrap b / 18446744073709551616 - IntKind.u64.wrap b) - IntKind.u64.wrap a) = hiU (a * b) := by
  rcases u64_case ha with ⟨_, ea⟩ | ⟨_, _⟩
  · rcases u64_case hb with ⟨_, eb⟩ | ⟨_, _⟩
    · rw [prod_shift a b _ _ 1 1 ea eb, ea, eb, IntKind.wrap_u64, IntKind.wrap_u64]
      unfold hiU
      generalize a * b = p
      omega
    · omega
  · omega
theorem times_np {a b : Int} (ha : I64 a) (hb : I64 b) (h1 : a < 0) (h2 : 0 ≤ b) :
    IntKind.u64.wrap (IntKind.u64.wrap a * IntKind.u64.wrap b / 18446744073709551616 - IntKind.u64.wrap b) = hiU (a * b) := by
  rcases u64_case ha with ⟨_, ea⟩ | ⟨_, _⟩
  · rcases u64_case hb with ⟨_, _⟩ | ⟨_, eb⟩
    · omega
    · rw [prod_shift a b _ _ 1 0 ea eb, eb, IntKind.wrap_u64]
      unfold hiU
      generalize a * b = p
      omega
  · omega
theorem times_pn {a b : Int} (ha : I64 a) (hb : I64 b) (h1 : 0 ≤ a) (h2 : b < 0) :
    IntKind.u64.wrap (IntKind.u64.wrap a * IntKind.u64.wrap b / 18446744073709551616 - IntKind.u64.wrap a) = hiU (a * b) := by
  rw [Int.mul_comm (IntKind.u64.wrap a), Int.mul_comm a]
  exact times_np hb ha h2 h1
theorem times_pp {a b : Int} (ha : I64 a) (hb : I64 b) (h1 : 0 ≤ a) (h2 : 0 ≤ b) :
    IntKind.u64.wrap a * IntKind.u64.wrap b / 18446744073709551616 = hiU (a * b) := by
  rcases u64_case ha with ⟨_, _⟩ | ⟨_, ea⟩
  · omega
  · rcases u64_case hb with ⟨_, _⟩ | ⟨_, eb⟩
    · omega
    · have hp : 0 ≤ a * b := Int.mul_nonneg h1 h2
      have hq : a * b ≤ 9223372036854775807 * 9223372036854775807 := Int.mul_le_mul ha.2 hb.2 h2 (by omega)
      rw [prod_shift a b _ _ 0 0 ea eb]
      unfold hiU
      generalize a * b = p at *
      omega
theorem times_lo {a b : Int} : IntKind.u64.wrap a * IntKind.u64.wrap b % 18446744073709551616 = loU (a * b) := by
  unfold loU
  rw [IntKind.wrap_u64, IntKind.wrap_u64, ← Int.mul_emod]
theorem bits_not_u64 {p : Int} (h : U64 p) : bits BinOp.xor IntKind.u64 IntKind.u64.max p = 18446744073709551615 - p := by
  obtain ⟨m, rfl⟩ := Int.eq_ofNat_of_zero_le h.1
  have hm : m < 18446744073709551616 := by have := h.2; omega
  have e : (IntKind.u64.max : Int) = ((18446744073709551615 : Nat) : Int) := by decide
  rw [e, bits_xor_u64_nat _ _ (by decide) hm]
  have hx : 18446744073709551615 ^^^ m = 18446744073709551615 - m := by
    have h1 : (BitVec.allOnes 64 ^^^ BitVec.ofNat 64 m).toNat = 18446744073709551615 ^^^ m := by
      rw [BitVec.toNat_xor, BitVec.toNat_ofNat, Nat.mod_eq_of_lt (by omega)]; simp
    rw [← h1, BitVec.allOnes_xor, BitVec.toNat_not, BitVec.toNat_ofNat, Nat.mod_eq_of_lt (by omega)]
  rw [hx]
  omega
theorem flip_hi (s : Int) : 18446744073709551615 - hiU s = hiU (-s - 1) := by unfold hiU; omega
theorem flip_lo (s : Int) : 18446744073709551615 - loU s = loU (-s - 1) := by unfold loU; omega
theorem hi_signed {s : Int} (h : I128 s) : wrap64 (hiU s) = s / 18446744073709551616 := by unfold I128 at h; unfold hiU; rw [wrap64_eq]; omega
theorem shift_hi {s : Int} (h : I128 s) (k : Nat) : IntKind.u64.wrap (wrap64 (hiU s) / 2 ^ k) = hiU (s / 2 ^ k) := by
  rw [hi_signed h, IntKind.wrap_u64]
  unfold hiU
  rw [Int.ediv_ediv_of_nonneg (by decide), Int.ediv_ediv_of_nonneg (Int.le_of_lt (Int.pow_pos (by decide))), Int.mul_comm]
theorem shift_lo {s : Int} (k : Nat) (hk : k ≤ 64) : bits BinOp.or IntKind.u64 (IntKind.u64.wrap (hiU s * 2 ^ (64 - k))) (loU s / 2 ^ k) = loU (s / 2 ^ k) := by
  have ek : (2 : Int) ^ (64 - k) * 2 ^ k = 18446744073709551616 := by rw [← Int.pow_add, show 64 - k + k = 64 by omega]; rfl
  have hp : (0 : Int) < 2 ^ k := Int.pow_pos (by decide)
  have hp' : (0 : Int) < 2 ^ (64 - k) := Int.pow_pos (by decide)
  have hlo : 0 ≤ loU s ∧ loU s < 18446744073709551616 := by unfold loU; omega
  have hq1 : loU s / 2 ^ k < 2 ^ (64 - k) := Int.ediv_lt_of_lt_mul hp (by rw [ek]; exact hlo.2)
  have hq0 : 0 ≤ loU s / 2 ^ k := Int.ediv_nonneg hlo.1 (Int.le_of_lt hp)
  have hs : s = loU s + s / 18446744073709551616 * 18446744073709551616 := by unfold loU; omega
  have e1 : s / 2 ^ k = loU s / 2 ^ k + s / 18446744073709551616 * 2 ^ (64 - k) := by
    conv => lhs; rw [hs]
    rw [show s / 18446744073709551616 * 18446744073709551616 = s / 18446744073709551616 * 2 ^ (64 - k) * 2 ^ k by rw [Int.mul_assoc, ek]]
    exact Int.add_mul_ediv_right _ _ (by omega)
  have e2 : IntKind.u64.wrap (hiU s * 2 ^ (64 - k)) = 2 ^ (64 - k) * (s / 18446744073709551616 % 2 ^ k) := by
    rw [IntKind.wrap_u64]
    unfold hiU
    rw [Int.mul_emod, Int.emod_emod_of_dvd _ (Int.dvd_refl _), ← Int.mul_emod, Int.mul_comm]
    rw [show (18446744073709551616 : Int) = 2 ^ (64 - k) * 2 ^ k from ek.symm]
    exact Int.mul_emod_mul_of_pos _ _ hp'
  have hr0 : 0 ≤ s / 18446744073709551616 % 2 ^ k := Int.emod_nonneg _ (by omega)
  have hr1 : s / 18446744073709551616 % 2 ^ k < 2 ^ k := Int.emod_lt_of_pos _ hp
  have e3 : 2 ^ (64 - k) * (s / 18446744073709551616 % 2 ^ k) + 2 ^ (64 - k) ≤ 18446744073709551616 := by
    have := Int.mul_le_mul_of_nonneg_left (show s / 18446744073709551616 % 2 ^ k + 1 ≤ 2 ^ k by omega) (Int.le_of_lt hp')
    rw [Int.mul_add, ek] at this
    omega
  have e4 : 0 ≤ 2 ^ (64 - k) * (s / 18446744073709551616 % 2 ^ k) := Int.mul_nonneg (Int.le_of_lt hp') hr0
  have e5 : s / 18446744073709551616 * 2 ^ (64 - k) % 18446744073709551616 = 2 ^ (64 - k) * (s / 18446744073709551616 % 2 ^ k) := by
    rw [show (18446744073709551616 : Int) = 2 ^ (64 - k) * 2 ^ k from ek.symm, Int.mul_comm]
    exact Int.mul_emod_mul_of_pos _ _ hp'
  rw [e2, bits_join .u64 64 (by decide) (fun n h0 h1 => by rw [IntKind.wrap_u64]; omega) (64 - k) _ _ e4 (Int.mul_emod_right _ _) (by omega) hq0 hq1 (by omega), e1]
  unfold loU at *
  generalize s % 18446744073709551616 / 2 ^ k = y at *
  generalize s / 18446744073709551616 * 2 ^ (64 - k) = A at *
  rw [← e5] at e3 e4 ⊢
  omega
end Go.Proofs.Ytekpejemfkjhcaa
/- Function values: a call of one enters its function. -/
namespace Go.Proofs.Ytekpejemfkjhcaa
open Go.RowKit
set_option maxRecDepth 100000
set_option linter.unusedVariables false
theorem cl_enter (K : FuncId) (hK : (Try.prog.funcs[K]?).map (fun f => f.name == "runtime.NumGoroutine" || f.body.isNone) = some false) (args : Array Value) (W : World) : (callFunc K args).run Try.prog W = .ok (.enter K args) W := by
  obtain ⟨fn, hf, hb⟩ := Option.map_eq_some_iff.1 hK
  simp only [Bool.or_eq_false_iff] at hb
  have h1 : ¬ fn.name = "runtime.NumGoroutine" := by simpa using hb.1
  have h2 : ¬ fn.body = none := fun e => by simp [e] at hb
  simp [callFunc, hf, h1, h2, go_sem]
end Go.Proofs.Ytekpejemfkjhcaa
/- 'append' onto a list of the call's own, whatever list is appended: the walk goes on in one way. -/
namespace Go.Proofs.Ytekpejemfkjhcaa
open Go.RowKit
set_option maxRecDepth 100000
set_option linter.unusedVariables false
section
variable {P : Program} {α : Type}
theorem app_nothing (w : World) (base : Nat) (t ty e : TypeId) (i : TypeInfo) (ht : P.underlying t = some (.slice e)) (hi : P.info? e = some i)
    (v : Value) (n : Nat) (vs : List Value) (hown : w.ownsRow base e 1 v n vs) (c : Nat) : (Builtin.append_ #[t, t] ty #[v, .slice none 0 c]).run P w = .ok v w := by
  rcases hown.2 with ⟨rfl, rfl⟩ | ⟨g, cap, cur, rfl, _, _, hnc, _⟩
  · simp [Builtin.append_, run_underlying ht, sizeOf, typeInfo, hi, Builtin.lenOf, Builtin.firstCells]
  · simp [Builtin.append_, run_underlying ht, sizeOf, typeInfo, hi, Builtin.lenOf, Builtin.firstCells, hnc, storeCells]
/-- The value of a list of the call's own. -/
theorem own_shape {w : World} {base n : Nat} {e : TypeId} {v : Value} {vs : List Value} (h : w.ownsRow base e 1 v n vs) : ∃ A c, v = .slice A n c := by
  rcases h.2 with ⟨rfl, rfl⟩ | ⟨g, cap, cur, rfl, _⟩
  · exact ⟨_, _, rfl⟩
  · exact ⟨_, _, rfl⟩
theorem run_app (enc : α → Value) (h1 : ∀ x, (enc x).oneCell' = true) (w : World) (base : Nat) (t ty e : TypeId) (z : Value) (bytes : Nat) (ht : P.underlying t = some (.slice e))
    (hinfo : (P.info? e).map (fun i => (i.zero, i.size, i.bytes)) = some (some z, 1, bytes)) (hzs : z.cells.size = 1)
    (ys : List α) (A0 : Option Addr) (c0 : Nat) (hown : w.ownsRow base e 1 (.slice A0 ys.length c0) ys.length (ys.map enc))
    (xs : List α) (A : Option Addr) (c B : Nat) (hr : Rd enc w B A xs) (h63 : ys.length + xs.length ≤ maxLen) (hbytes : (ys.length + xs.length) * bytes ≤ 140737488355328) (hbase : base ≤ w.heap.size) :
    ∃ A' c' w', (Builtin.append_ #[t, t] ty #[.slice A0 ys.length c0, .slice A xs.length c]).run P w = .ok (.slice A' (ys ++ xs).length c') w' ∧ w'.ownsRow base e 1 (.slice A' (ys ++ xs).length c') (ys ++ xs).length ((ys ++ xs).map enc) ∧
      Below base w w' ∧ w.grownBy w' (Value.slice A0 ys.length c0).ownBlock ∧ ((Value.slice A' (ys ++ xs).length c').ownBlock = (Value.slice A0 ys.length c0).ownBlock ∨ (Value.slice A' (ys ++ xs).length c').ownBlock = some w.heap.size) := by
  obtain ⟨i, hi, hzz⟩ := Option.map_eq_some_iff.1 hinfo
  simp only [Prod.mk.injEq] at hzz
  obtain ⟨hz, hs, hb⟩ := hzz
  have hlen : (ys ++ xs).length = ys.length + xs.length := List.length_append
  rcases A with _ | ad
  · have hx : xs = [] := by
      cases xs with
      | nil => rfl
      | cons x xs =>
        obtain ⟨_, _, he, _⟩ := hr 0 x rfl
        cases he
    subst hx
    rw [List.append_nil]
    exact ⟨A0, c0, w, app_nothing w base t ty e i ht hi _ _ _ hown c, hown, Below.refl _ _, World.grownBy.refl w _, .inl rfl⟩
  · have hcells : ∀ j u, (xs.map enc)[j]? = some u → w.cell? (ad.add j) = some u := by
      intro j u hu
      rw [List.getElem?_map, Option.map_eq_some_iff] at hu
      obtain ⟨x, hx, rfl⟩ := hu
      obtain ⟨b, off, he, _, hc⟩ := hr j x hx
      injection he with he
      subst he
      rw [Addr.add_lit]
      exact hc
    obtain ⟨v', w', hrun, h2, h3, _, h5⟩ := run_append_own_at (P := P) w base t ty e i z 1 bytes ht hi hz hs hb hzs (by decide) _ ys.length (ys.map enc) hown ad xs.length c (xs.map enc) (by simp) hcells (by
      intro u hu
      obtain ⟨x, _, rfl⟩ := List.mem_map.1 hu
      exact h1 x) h63 hbytes hbase
    obtain ⟨A', c', rfl⟩ := own_shape h2
    rw [← List.map_append] at h2
    rw [← hlen] at h2 hrun h5
    refine ⟨A', c', w', hrun, h2, (Below.refl base w).grown h3 hbase fun k hk => (hown.lt k hk).1, h3, h5⟩
theorem wpList_app (enc : α → Value) (h1 : ∀ x, (enc x).oneCell' = true) (w : World) {ops : Array Oper} {rest : List Oper} {o : Oper} {a : Act} {Q : Exit → Act → World → Prop} (hgd : o.guard = none) (s x : Operand) (t : TypeId)
    (ho : o.op = .call { callee := .builtin .append, args := #[s, x], argTypes := #[t, t] })
    (base : Nat) (e : TypeId) (z : Value) (bytes : Nat) (ht : P.underlying t = some (.slice e)) (hinfo : (P.info? e).map (fun i => (i.zero, i.size, i.bytes)) = some (some z, 1, bytes)) (hzs : z.cells.size = 1)
    (ys : List α) (A0 : Option Addr) (c0 : Nat) (hs : a.eval s = .slice A0 ys.length c0) (hown : w.ownsRow base e 1 (.slice A0 ys.length c0) ys.length (ys.map enc))
    (xs : List α) (A : Option Addr) (c B : Nat) (hx : a.eval x = .slice A xs.length c) (hr : Rd enc w B A xs) (h63 : ys.length + xs.length ≤ maxLen) (hbytes : (ys.length + xs.length) * bytes ≤ 140737488355328) (hbase : base ≤ w.heap.size)
    (h : ∀ (S : List α) (A' : Option Addr) (c' : Nat) (w' : World), S = ys ++ xs → w'.ownsRow base e 1 (.slice A' S.length c') S.length (S.map enc) → Below base w w' → w.grownBy w' (Value.slice A0 ys.length c0).ownBlock → wpList P ops Q rest (a.put o.dst (.slice A' S.length c')) w') :
    wpList P ops Q (o :: rest) a w := by
  refine wpList_plain hgd fun _ hK => ?_
  obtain ⟨A', c', w', hrun, h2, h3, h4, _⟩ := run_app (P := P) enc h1 w base t o.type e z bytes ht hinfo hzs ys A0 c0 hown xs A c B hr h63 hbytes hbase
  unfold Oper.wp execOp
  simp only [ho, resolve, invoke, builtin, Sem.run_bind, Sem.run_pure, Result.andThen_ok, List.map_toArray, List.map_cons, List.map_nil, hs, hx, hrun]
  exact hK _ _ (h _ A' c' w' rfl h2 h3 h4)
/-- One thing appended: it lies in a cell of its own. -/
theorem rd_one {enc : α → Value} {w : World} {b o : Nat} {x : α} (hc : w.cell? ⟨b, o, none⟩ = some (enc x)) : Rd enc w w.heap.size (some ⟨b, o, none⟩) [x] := fun k y hy => by
  cases k with
  | zero =>
    simp only [List.getElem?_cons_zero, Option.some.injEq] at hy
    subst hy
    exact ⟨b, o, rfl, lt_of_cell hc, hc⟩
  | succ k => simp at hy
end
end Go.Proofs.Ytekpejemfkjhcaa
/- Lists of lists in memory, by their slices; part of them and turned round. -/
namespace Go.Proofs.Ytekpejemfkjhcaa
open Go.RowKit
set_option maxRecDepth 100000
set_option linter.unusedVariables false
/-- A slice of slices at A reads as these lists. -/
def RdRows (w : World) (B : Nat) (A : Option Addr) (rows : List (List Int)) : Prop :=
  ∀ k xs, rows[k]? = some xs → ∃ b off A' c', A = some ⟨b, off, none⟩ ∧ b < B ∧ w.cell? ⟨b, off + k, none⟩ = some (.slice A' xs.length c') ∧ Rd (Value.int .i64) w B A' xs
theorem RdRows.below {w w' : World} {B : Nat} {A : Option Addr} {rows : List (List Int)} (h : RdRows w B A rows) (hb : Below B w w') : RdRows w' B A rows := fun k xs hx => by
  obtain ⟨b, off, A', c', e, hl, hc, hr⟩ := h k xs hx
  exact ⟨b, off, A', c', e, hl, (hb.cell (p := ⟨b, off + k, none⟩) hl).trans hc, hr.below hb⟩
theorem RdRows.more {w : World} {B B' : Nat} {A : Option Addr} {rows : List (List Int)} (h : RdRows w B A rows) (hB : B ≤ B') : RdRows w B' A rows := fun k xs hx => by
  obtain ⟨b, off, A', c', e, hl, hc, hr⟩ := h k xs hx
  exact ⟨b, off, A', c', e, by omega, hc, hr.more hB⟩
theorem RdRows.on {w w' : World} {A : Option Addr} {rows : List (List Int)} (h : RdRows w w.heap.size A rows) (hb : Below w.heap.size w w') : RdRows w' w'.heap.size A rows := (h.below hb).more hb.size
/-- A slice's three parts. -/
abbrev Sl := Option Addr × Nat × Nat
def encS (p : Sl) : Value := .slice p.1 p.2.1 p.2.2
/-- The slices by which lists lie in memory. -/
def Fits (w : World) (B : Nat) (ps : List Sl) (rows : List (List Int)) : Prop := ps.length = rows.length ∧ ∀ (k : Nat) (p : Sl) (xs : List Int), ps[k]? = some p → rows[k]? = some xs → p.2.1 = xs.length ∧ Rd (Value.int .i64) w B p.1 xs
theorem rows_join {w : World} {B : Nat} {A : Option Addr} {ps : List Sl} {rows : List (List Int)} (h : Rd encS w B A ps) (hf : Fits w B ps rows) : RdRows w B A rows := fun k xs hx => by
  have hk : k < ps.length := by rw [hf.1]; exact (List.getElem?_eq_some_iff.1 hx).1
  obtain ⟨b, off, e, hl, hc⟩ := h k ps[k] (List.getElem?_eq_getElem hk)
  obtain ⟨h1, h2⟩ := hf.2 k _ xs (List.getElem?_eq_getElem hk) hx
  refine ⟨b, off, ps[k].1, ps[k].2.2, e, hl, ?_, h2⟩
  rw [hc]
  unfold encS
  rw [h1]
end Go.Proofs.Ytekpejemfkjhcaa
/- Plain facts on a long division's digits (Knuth's way, with halves of 32 bits). No program in sight. -/
namespace Go.Proofs.Ytekpejemfkjhcaa
set_option maxRecDepth 100000
set_option linter.unusedVariables false

/-- q and r while one digit is sought: never below what it is. -/
structure Dig (u d1 d0 c q r : Int) : Prop where
  sum : q * d1 + r = u
  up : (u * 4294967296 + c) / (d1 * 4294967296 + d0) ≤ q
  q0 : 0 ≤ q
  q1 : q ≤ 4294967297
  r0 : 0 ≤ r

/-- What the digits are sought of. -/
structure Den (u d1 d0 c : Int) : Prop where
  d1l : 2147483648 ≤ d1
  d1h : d1 < 4294967296
  d0l : 0 ≤ d0
  d0h : d0 < 4294967296
  u0 : 0 ≤ u
  ud : u < d1 * 4294967296 + d0
  c0 : 0 ≤ c
  c1 : c < 4294967296

variable {u d1 d0 c q r : Int}

theorem dig_quo0 (n : Den u d1 d0 c) : 0 ≤ (u * 4294967296 + c) / (d1 * 4294967296 + d0) := by
  obtain ⟨h1, h2, h3, h4, h5, h6, h7, h8⟩ := n
  exact Int.ediv_nonneg (by omega) (by omega)
theorem dig_quo1 (n : Den u d1 d0 c) : (u * 4294967296 + c) / (d1 * 4294967296 + d0) < 4294967296 := by
  obtain ⟨h1, h2, h3, h4, h5, h6, h7, h8⟩ := n
  exact Int.ediv_lt_of_lt_mul (by omega) (by omega)
theorem dig_mul (h : Dig u d1 d0 c q r) : q * (d1 * 4294967296 + d0) = (u - r) * 4294967296 + q * d0 := by
  have := h.sum
  rw [Int.mul_add, ← Int.mul_assoc, show q * d1 = u - r by omega]
theorem dig_le (n : Den u d1 d0 c) (h : Dig u d1 d0 c q r) (hle : q * d0 ≤ 4294967296 * r + c) : (u * 4294967296 + c) / (d1 * 4294967296 + d0) = q := by
  refine Int.le_antisymm h.up (Int.le_ediv_of_mul_le (by have := n.d1l; have := n.d0l; omega) ?_)
  rw [dig_mul h]
  omega
theorem dig_gt (n : Den u d1 d0 c) (h : Dig u d1 d0 c q r) (hg : 4294967296 ≤ q ∨ 4294967296 * r + c < q * d0) : (u * 4294967296 + c) / (d1 * 4294967296 + d0) ≤ q - 1 := by
  rcases hg with hg | hg
  · have := dig_quo1 n; omega
  · have : (u * 4294967296 + c) / (d1 * 4294967296 + d0) < q := Int.ediv_lt_of_lt_mul (by have := n.d1l; have := n.d0l; omega) (by rw [dig_mul h]; omega)
    omega
theorem dig_step (n : Den u d1 d0 c) (h : Dig u d1 d0 c q r) (hg : 4294967296 ≤ q ∨ 4294967296 * r + c < q * d0) : Dig u d1 d0 c (q - 1) (r + d1) ∧ 1 ≤ q ∧ q - 1 ≤ 4294967296 := by
  have h1 := dig_gt n h hg
  have h2 := dig_quo0 n
  have h3 := h.q1
  have h4 := h.r0
  have h5 := n.d1l
  have h6 := h.sum
  exact ⟨⟨by rw [Int.sub_mul]; omega, h1, by omega, by omega, by omega⟩, by omega, by omega⟩
theorem dig_break (n : Den u d1 d0 c) (h : Dig u d1 d0 c q r) (hq : q ≤ 4294967296) (hr : 4294967296 ≤ r) : (u * 4294967296 + c) / (d1 * 4294967296 + d0) = q := by
  refine dig_le n h ?_
  have h1 : q * d0 ≤ 4294967296 * 4294967295 := Int.mul_le_mul hq (by have := n.d0h; omega) n.d0l (by decide)
  have := n.c0
  omega
theorem dig_start (n : Den u d1 d0 c) : Dig u d1 d0 c (u / d1) (u - u / d1 * d1) ∧ u - u / d1 * d1 < 4294967296 := by
  obtain ⟨h1, h2, h3, h4, h5, h6, h7, h8⟩ := n
  have e := Int.mul_ediv_add_emod u d1
  have e1 := Int.emod_nonneg u (show d1 ≠ 0 by omega)
  have e2 := Int.emod_lt_of_pos u (show 0 < d1 by omega)
  rw [Int.mul_comm] at e
  have q0 : 0 ≤ u / d1 := Int.ediv_nonneg h5 (by omega)
  refine ⟨⟨by omega, ?_, q0, ?_, by omega⟩, by omega⟩
  · have : (u * 4294967296 + c) / (d1 * 4294967296 + d0) < u / d1 + 1 := by
      refine Int.ediv_lt_of_lt_mul (by omega) ?_
      have k1 : (u / d1 + 1) * (d1 * 4294967296 + d0) = (u / d1 * d1 + d1) * 4294967296 + (u / d1 + 1) * d0 := by
        rw [Int.mul_add, ← Int.mul_assoc, Int.add_mul, Int.one_mul]
      have k2 : 0 ≤ (u / d1 + 1) * d0 := Int.mul_nonneg (by omega) h3
      omega
    omega
  · have : u / d1 < 4294967298 := Int.ediv_lt_of_lt_mul (by omega) (by omega)
    omega

/-- Both digits together. -/
theorem two_digits {D t1 t0 a1 a0 b : Int} (_hD : 0 < D) (h1 : t1 = a1 * D + b) (h0 : b * 4294967296 + t0 = a0 * D + r) (hr : 0 ≤ r) (hr' : r < D) :
    (t1 * 4294967296 + t0) / D = a1 * 4294967296 + a0 ∧ (t1 * 4294967296 + t0) % D = r := by
  have e : t1 * 4294967296 + t0 = r + (a1 * 4294967296 + a0) * D := by
    subst h1
    rw [Int.add_mul, Int.add_mul, Int.mul_right_comm]
    omega
  rw [e]
  constructor
  · rw [Int.add_mul_ediv_right _ _ (by omega), Int.ediv_eq_zero_of_lt hr hr']; omega
  · rw [Int.add_mul_emod_self_right, Int.emod_eq_of_lt hr hr']

/-- Shifting both by as many bits does not change the quotient. -/
theorem quo_shift {U y p : Int} (hp : 0 < p) (hy : 0 < y) : U * p / (y * p) = U / y ∧ U * p % (y * p) / p = U % y := by
  constructor
  · exact Int.mul_ediv_mul_of_pos_left _ _ hp
  · rw [Int.mul_comm U, Int.mul_comm y, Int.mul_emod_mul_of_pos _ _ hp]
    exact Int.mul_ediv_cancel_left _ (by omega)
end Go.Proofs.Ytekpejemfkjhcaa
/- Plain facts on a number shifted so far that its highest bit stands. No program in sight. -/
namespace Go.Proofs.Ytekpejemfkjhcaa
open Go.RowKit
set_option maxRecDepth 100000
set_option linter.unusedVariables false
theorem and_low (x : Int) (h : U64 x) : bits BinOp.and IntKind.u64 x 4294967295 = x % 4294967296 :=
  bits_mask .u64 64 (by decide) (fun n h0 h1 => by rw [IntKind.wrap_u64]; omega) 32 (by decide) x h.1 (by have := h.2; omega)
theorem two_pow_split (s : Nat) (hs : s ≤ 64) : (2 : Int) ^ s * 2 ^ (64 - s) = 18446744073709551616 := by
  rw [← Int.pow_add, show s + (64 - s) = 64 by omega]; rfl
theorem norm_u (h l y : Int) (s : Nat) (hs : s ≤ 63) (hl : U64 l) (h0 : 0 ≤ h) (h1 : h < y) (hD : y * 2 ^ s ≤ 18446744073709551615) :
    bits BinOp.or IntKind.u64 (IntKind.u64.wrap (h * 2 ^ s)) (l / 2 ^ (64 - s)) = h * 2 ^ s + l / 2 ^ (64 - s) := by
  have ek := two_pow_split s (by omega)
  have hp : (0 : Int) < 2 ^ s := Int.pow_pos (by decide)
  have hp' : (0 : Int) < 2 ^ (64 - s) := Int.pow_pos (by decide)
  have e1 : h * 2 ^ s < y * 2 ^ s := Int.mul_lt_mul_of_pos_right h1 hp
  have e0 : 0 ≤ h * 2 ^ s := Int.mul_nonneg h0 (by omega)
  have e2 : l / 2 ^ (64 - s) < 2 ^ s := Int.ediv_lt_of_lt_mul hp' (by rw [ek]; have := hl.2; omega)
  have e3 : 0 ≤ l / 2 ^ (64 - s) := Int.ediv_nonneg hl.1 (by omega)
  have e4 : (2 : Int) ^ s ≤ 2 ^ s * 2 ^ (64 - s) := by
    have := Int.mul_le_mul_of_nonneg_left (show (1 : Int) ≤ 2 ^ (64 - s) by omega) (Int.le_of_lt hp)
    omega
  rw [ek] at e4
  rw [show IntKind.u64.wrap (h * 2 ^ s) = h * 2 ^ s by rw [IntKind.wrap_u64]; omega]
  exact bits_join .u64 64 (by decide) (fun n h0 h1 => by rw [IntKind.wrap_u64]; omega) s _ _ e0 (Int.mul_emod_left _ _) (by omega) e3 e2 (by omega)
theorem norm_sum (h l : Int) (s : Nat) (hs : s ≤ 63) : (h * 18446744073709551616 + l) * 2 ^ s = (h * 2 ^ s + l / 2 ^ (64 - s)) * 18446744073709551616 + IntKind.u64.wrap (l * 2 ^ s) := by
  have ek := two_pow_split s (by omega)
  have hp : (0 : Int) < 2 ^ s := Int.pow_pos (by decide)
  have e : l * 2 ^ s / 18446744073709551616 = l / 2 ^ (64 - s) := by
    rw [← ek, Int.mul_comm l]; exact Int.mul_ediv_mul_of_pos _ _ hp
  rw [IntKind.wrap_u64, Int.add_mul, Int.add_mul, ← e, Int.mul_right_comm]
  omega
theorem norm_lt (h l y : Int) (s : Nat) (hs : s ≤ 63) (hl : U64 l) (h1 : h < y) : h * 2 ^ s + l / 2 ^ (64 - s) < y * 2 ^ s := by
  have hp : (0 : Int) < 2 ^ s := Int.pow_pos (by decide)
  have e := norm_sum h l s hs
  have e2 : (h * 18446744073709551616 + l) * 2 ^ s < (y * 18446744073709551616) * 2 ^ s := Int.mul_lt_mul_of_pos_right (by have := hl.2; omega) hp
  rw [e, Int.mul_right_comm] at e2
  have := (U64.wrap (l * 2 ^ s)).1
  omega
end Go.Proofs.Ytekpejemfkjhcaa
/- Roots, rows, powers of two, shares of a whole. Plain mathematics. No program in sight. -/
/- The greatest number's place, and shares: the errors, and what follows. Plain mathematics. No program in sight. -/
/- A block of the call's own that holds these values, cell by cell: structs in boxes; what stores and calls leave of them. -/
namespace Go.Proofs.Ytekpejemfkjhcaa
open Go.RowKit
set_option maxRecDepth 100000
set_option linter.unusedVariables false
/-- The cells of a block, none of them frozen. -/
def BoxL (w : World) (g : Nat) (vs : List Value) : Prop := ∀ (k : Nat) (v : Value), vs[k]? = some v → w.cell? ⟨g, k, none⟩ = some v ∧ w.frozen? ⟨g, k, none⟩ = false
section
variable {w w' : World} {g B : Nat} {vs : List Value}
theorem BoxL.below (h : BoxL w g vs) (hb : Below B w w') (hg : g < B) : BoxL w' g vs := fun k v hv =>
  ⟨(hb.cell (p := ⟨g, k, none⟩) hg).trans (h k v hv).1, (hb.frozen (p := ⟨g, k, none⟩) hg).trans (h k v hv).2⟩
theorem BoxL.new (w : World) (vs : List Value) (t : TypeId) : BoxL (w.alloc (.cells vs.toArray t)) w.heap.size vs := fun k v hv => by
  have hn := heap_alloc_new w (.cells vs.toArray t)
  refine ⟨?_, ?_⟩
  · rw [cell_of_row _ _ k _ t (0, 0) hn]
    simp [hv]
  · unfold World.frozen?
    simp only [hn]
    simp
theorem BoxL.one (h : BoxL w g vs) {k : Nat} {v : Value} (hv : vs[k]? = some v) (u : Value) : BoxL (w.setCell ⟨g, k, none⟩ u) g (vs.set k u) := fun j x hx => by
  refine ⟨?_, ?_⟩
  · by_cases e : j = k
    · subst e
      rw [List.getElem?_set_self (List.getElem?_eq_some_iff.1 hv).1] at hx
      obtain rfl : u = x := Option.some.inj hx
      exact World.cell?_setCell_same _ _ _ (h j v hv).1
    · rw [List.getElem?_set_ne (by omega)] at hx
      rw [World.cell?_setCell_other _ _ _ _ (by intro e'; injection e' with _ e2; exact e e2.symm)]
      exact (h j x hx).1
  · rw [World.frozen?_setCell]
    by_cases e : j = k
    · subst e; exact (h j v hv).2
    · rw [List.getElem?_set_ne (by omega)] at hx
      exact (h j x hx).2
theorem BoxL.other (h : BoxL w g vs) {p : Addr} (hp : p.block ≠ g) (u : Value) : BoxL (w.setCell p u) g vs := fun j x hx => by
  refine ⟨?_, ?_⟩
  · rw [World.cell?_setCell_other _ _ _ _ (by rintro rfl; exact hp rfl)]
    exact (h j x hx).1
  · rw [World.frozen?_setCell]; exact (h j x hx).2
theorem BoxL.drew (h : BoxL w g vs) : BoxL w.drew g vs := h
theorem BoxL.lt (h : BoxL w g vs) (h0 : 0 < vs.length) : g < w.heap.size := lt_of_cell (h 0 _ (List.getElem?_eq_getElem h0)).1
/-- The facts of two, eight, eleven cells. -/
theorem BoxL.two {a b : Value} (h : BoxL w g [a, b]) : w.cell? ⟨g, 0, none⟩ = some a ∧ w.cell? ⟨g, 1, none⟩ = some b ∧ w.frozen? ⟨g, 0, none⟩ = false ∧ w.frozen? ⟨g, 1, none⟩ = false :=
  ⟨(h 0 a rfl).1, (h 1 b rfl).1, (h 0 a rfl).2, (h 1 b rfl).2⟩
end
theorem own_set {w : World} {base n : Nat} {e : TypeId} {v : Value} {vs : List Value} (h : w.ownsRow base e 1 v n vs) {p : Addr} (hp : p.block < base) (u : Value) : (w.setCell p u).ownsRow base e 1 v n vs := by
  refine ⟨h.1, ?_⟩
  rcases h.2 with hn | ⟨g, cap, cur, hv, hg, hh, r⟩
  · exact .inl hn
  · exact .inr ⟨g, cap, cur, hv, hg, (Below.heap_setCell w p u g (by omega)).trans hh, r⟩
end Go.Proofs.Ytekpejemfkjhcaa
/- Stores into a block of the call's own, seen from other blocks. -/
namespace Go.Proofs.Ytekpejemfkjhcaa
open Go.RowKit
set_option maxRecDepth 100000
set_option linter.unusedVariables false
theorem BoxL.far {w w' : World} {g : Nat} {vs : List Value} {row : Option Nat} (h : BoxL w g vs) (hg : w.grownBy w' row) (hr : some g ≠ row) (hl : g < w.heap.size) : BoxL w' g vs := fun k v hv =>
  ⟨(World.cell?_of_block (a := ⟨g, k, none⟩) (hg.block g hl hr)).trans (h k v hv).1, (World.frozen?_of_block (a := ⟨g, k, none⟩) (hg.block g hl hr)).trans (h k v hv).2⟩
/-- Where a list of the call's own lies. -/
theorem row_in {w : World} {base n c : Nat} {e : TypeId} {A : Option Addr} {vs : List Value} (h : w.ownsRow base e 1 (.slice A n c) n vs) : ∀ b, A.map (·.block) = some b → base ≤ b ∧ b < w.heap.size := by
  intro b hb
  rcases h.2 with ⟨he, _⟩ | ⟨g, cap, cur, he, hg, hh, _⟩
  · simp only [Value.slice.injEq] at he
    rw [he.1] at hb
    cases hb
  · simp only [Value.slice.injEq] at he
    rw [he.1] at hb
    simp at hb
    subst hb
    exact ⟨hg, (Array.getElem?_eq_some_iff.1 hh).1⟩
end Go.Proofs.Ytekpejemfkjhcaa
/- A step of a region that draws: an append onto a list of the call's own. -/
namespace Go.Proofs.Ytekpejemfkjhcaa
open Go.RowKit
set_option maxHeartbeats 400000
set_option maxRecDepth 100000
set_option linter.unusedVariables false
theorem step_app {P : Program} {α : Type} (enc : α → Value) (h1 : ∀ x, (enc x).oneCell' = true) {w : World} {ops : Array Oper} {o : Oper} {a : Act} {K : Act → World → Prop} {Q : Exit → Act → World → Prop} {E : Prop} (hgd : o.guard = none) (s x : Operand) (t : TypeId)
    (ho : o.op = .call { callee := .builtin .append, args := #[s, x], argTypes := #[t, t] })
    (base : Nat) (e : TypeId) (z : Value) (bytes : Nat) (ht : P.underlying t = some (.slice e)) (hinfo : (P.info? e).map (fun i => (i.zero, i.size, i.bytes)) = some (some z, 1, bytes)) (hzs : z.cells.size = 1)
    (ys : List α) (A0 : Option Addr) (c0 : Nat) (hs : a.eval s = .slice A0 ys.length c0) (hown : w.ownsRow base e 1 (.slice A0 ys.length c0) ys.length (ys.map enc))
    (xs : List α) (A : Option Addr) (c B : Nat) (hx : a.eval x = .slice A xs.length c) (hr : Rd enc w B A xs) (h63 : ys.length + xs.length ≤ maxLen) (hbytes : (ys.length + xs.length) * bytes ≤ 140737488355328) (hbase : base ≤ w.heap.size)
    (h : ∀ (S : List α) (A' : Option Addr) (c' : Nat) (w' : World), S = ys ++ xs → w'.ownsRow base e 1 (.slice A' S.length c') S.length (S.map enc) → Below base w w' → w.grownBy w' (Value.slice A0 ys.length c0).ownBlock → K (a.put o.dst (.slice A' S.length c')) w') :
    if Region.wanted o (yielded ops a.tmps) = true then Oper.wp P o a w K Q else E := by
  have hw : Region.wanted o (yielded ops a.tmps) = true := by simp [Region.wanted, hgd]
  rw [if_pos hw]
  obtain ⟨A', c', w', hrun, h2, h3, h4, _⟩ := run_app (P := P) enc h1 w base t o.type e z bytes ht hinfo hzs ys A0 c0 hown xs A c B hr h63 hbytes hbase
  unfold Oper.wp execOp
  simp only [ho, resolve, invoke, builtin, Sem.run_bind, Sem.run_pure, Result.andThen_ok, List.map_toArray, List.map_cons, List.map_nil, hs, hx, hrun]
  exact h _ A' c' w' rfl h2 h3 h4
end Go.Proofs.Ytekpejemfkjhcaa
/- Two lists of the call's own that grow by turns: an append that tells where its list lies then. -/
namespace Go.Proofs.Ytekpejemfkjhcaa
open Go.RowKit
set_option maxRecDepth 100000
set_option linter.unusedVariables false
/-- Where a list lies behind an append: where it lay, or in a block that is new. -/
def went (A' A : Option Addr) (n : Nat) : Prop := A'.map (·.block) = A.map (·.block) ∨ A'.map (·.block) = some n
section
variable {α : Type} {P : Program}
theorem ob_eq (A : Option Addr) (n c : Nat) : (Value.slice A n c).ownBlock = A.map (·.block) := by cases A <;> rfl
theorem wpList_app5 (enc : α → Value) (h1 : ∀ x, (enc x).oneCell' = true) (w : World) {ops : Array Oper} {rest : List Oper} {o : Oper} {a : Act} {Q : Exit → Act → World → Prop} (hgd : o.guard = none) (s x : Operand) (t : TypeId)
    (ho : o.op = .call { callee := .builtin .append, args := #[s, x], argTypes := #[t, t] })
    (base : Nat) (e : TypeId) (z : Value) (bytes : Nat) (ht : P.underlying t = some (.slice e)) (hinfo : (P.info? e).map (fun i => (i.zero, i.size, i.bytes)) = some (some z, 1, bytes)) (hzs : z.cells.size = 1)
    (ys : List α) (A0 : Option Addr) (c0 : Nat) (hs : a.eval s = .slice A0 ys.length c0) (hown : w.ownsRow base e 1 (.slice A0 ys.length c0) ys.length (ys.map enc))
    (xs : List α) (A : Option Addr) (c B : Nat) (hx : a.eval x = .slice A xs.length c) (hr : Rd enc w B A xs) (h63 : ys.length + xs.length ≤ maxLen) (hbytes : (ys.length + xs.length) * bytes ≤ 140737488355328) (hbase : base ≤ w.heap.size)
    (h : ∀ (S : List α) (A' : Option Addr) (c' : Nat) (w' : World), S = ys ++ xs → w'.ownsRow base e 1 (.slice A' S.length c') S.length (S.map enc) → Below base w w' → w.grownBy w' (A0.map (·.block)) → went A' A0 w.heap.size → wpList P ops Q rest (a.put o.dst (.slice A' S.length c')) w') :
    wpList P ops Q (o :: rest) a w := by
  refine wpList_plain hgd fun _ hK => ?_
  obtain ⟨A', c', w', hrun, h2, h3, h4, h5⟩ := run_app (P := P) enc h1 w base t o.type e z bytes ht hinfo hzs ys A0 c0 hown xs A c B hr h63 hbytes hbase
  rw [ob_eq] at h4
  rw [ob_eq, ob_eq] at h5
  unfold Oper.wp execOp
  simp only [ho, resolve, invoke, builtin, Sem.run_bind, Sem.run_pure, Result.andThen_ok, List.map_toArray, List.map_cons, List.map_nil, hs, hx, hrun]
  exact hK _ _ (h _ A' c' w' rfl h2 h3 h4 h5)
end
/-- Two lists that lie apart. -/
def apt (A B : Option Addr) : Prop := ∀ g, A.map (·.block) = some g → B.map (·.block) ≠ some g
theorem apt.symm {A B : Option Addr} (h : apt A B) : apt B A := fun g h1 h2 => h g h2 h1
theorem apt.app {A A' B : Option Addr} (h : apt A B) {m : Nat} (h5 : went A' A m) (hB : ∀ g, B.map (·.block) = some g → g < m) : apt A' B := fun g h1 h2 => by
  rcases h5 with e | e
  · exact h g (by rw [← e, h1]) h2
  · rw [e] at h1
    injection h1 with h1
    have := hB g h2
    omega
end Go.Proofs.Ytekpejemfkjhcaa
/- A list of rows of the call's own, each of which is of the call's own: how it grows. -/
namespace Go.Proofs.Ytekpejemfkjhcaa
open Go.RowKit
set_option maxRecDepth 100000
set_option linter.unusedVariables false
theorem info_row : (Try.prog.info? 22).map (fun i => (i.zero, i.size, i.bytes)) = some (some (.slice none 0 0), 1, 24) := by kernel_rfl
/-- Numbers that lie in a block of the call's own, and not in that of the list of rows; they may be set. -/
def RdX (w : World) (base : Nat) (G : Option Nat) (A : Option Addr) (xs : List Int) : Prop :=
  ∀ j x, xs[j]? = some x → ∃ b o, A = some ⟨b, o, none⟩ ∧ base ≤ b ∧ b < w.heap.size ∧ G ≠ some b ∧ w.cell? ⟨b, o + j, none⟩ = some (.int .i64 x) ∧ w.frozen? ⟨b, o + j, none⟩ = false
theorem RdX.rd {w : World} {base : Nat} {G : Option Nat} {A : Option Addr} {xs : List Int} (h : RdX w base G A xs) : Rd (Value.int .i64) w w.heap.size A xs := fun j x hx => by
  obtain ⟨b, o, e, _, hl, _, hc, _⟩ := h j x hx
  exact ⟨b, o, e, hl, hc⟩
theorem RdX.none_ {w : World} {base : Nat} {G : Option Nat} : RdX w base G none [] := fun j x hx => by simp at hx
theorem RdX.on {w w' : World} {base : Nat} {G : Option Nat} {A : Option Addr} {xs : List Int} (h : RdX w base G A xs) (hb : Below w.heap.size w w') : RdX w' base G A xs := fun j x hx => by
  obtain ⟨b, o, e, hg, hl, hn, hc, hf⟩ := h j x hx
  exact ⟨b, o, e, hg, Nat.lt_of_lt_of_le hl hb.size, hn, (hb.cell (p := ⟨b, o + j, none⟩) hl).trans hc, (hb.frozen (p := ⟨b, o + j, none⟩) hl).trans hf⟩
theorem RdX.set {w : World} {base : Nat} {G : Option Nat} {A : Option Addr} {xs : List Int} (h : RdX w base G A xs) {p : Addr} (hp : p.block < base) (u : Value) : RdX (w.setCell p u) base G A xs := fun j x hx => by
  obtain ⟨b, o, e, hg, hl, hn, hc, hf⟩ := h j x hx
  refine ⟨b, o, e, hg, by simpa using hl, hn, ?_, (World.frozen?_setCell _ _ _ _).trans hf⟩
  unfold World.cell? at hc ⊢
  rw [heap_setCell_other _ _ _ _ (by show b ≠ p.block; omega)]
  exact hc
theorem RdX.grown {w w' : World} {base : Nat} {G G' : Option Nat} {A : Option Addr} {xs : List Int} (h : RdX w base G A xs) (hg : w.grownBy w' G) (h5 : G' = G ∨ G' = some w.heap.size) : RdX w' base G' A xs := fun j x hx => by
  obtain ⟨b, o, e, hB, hl, hn, hc, hf⟩ := h j x hx
  refine ⟨b, o, e, hB, Nat.lt_of_lt_of_le hl hg.size, ?_, (World.cell?_of_block (a := ⟨b, o + j, none⟩) (hg.block b hl (fun e => hn e.symm))).trans hc, (World.frozen?_of_block (a := ⟨b, o + j, none⟩) (hg.block b hl (fun e => hn e.symm))).trans hf⟩
  rcases h5 with rfl | rfl
  · exact hn
  · intro e; injection e with e; omega
/-- A row just made. -/
theorem rdx_own {w : World} {base b0 : Nat} {G : Option Nat} {A : Option Addr} {c : Nat} {xs : List Int} {t : TypeId} (h : w.ownsRow b0 t 1 (.slice A xs.length c) xs.length (xs.map (Value.int .i64))) (hb : base ≤ b0) (hG : ∀ g, G = some g → g < b0) : RdX w base G A xs := fun j x hx => by
  obtain ⟨g, e, hg, hc, hf⟩ := own_cell h (List.getElem?_eq_some_iff.1 hx).1
  rw [getD_of hx] at hc
  refine ⟨g, 0, e, by omega, lt_of_cell hc, fun e => by have := hG g e; omega, ?_, ?_⟩
  · rw [Nat.zero_add]; exact hc
  · rw [Nat.zero_add]; exact hf
def OwnRw (w : World) (base : Nat) (A : Option Addr) (c : Nat) (rows : List (List Int)) : Prop :=
  ∃ ps : List Sl, ps.length = rows.length ∧ w.ownsRow base 22 1 (.slice A ps.length c) ps.length (ps.map encS) ∧
    ∀ (k : Nat) (p : Sl) (xs : List Int), ps[k]? = some p → rows[k]? = some xs → (p.2.1 = xs.length ∧ p.2.1 ≤ p.2.2 ∧ p.2.2 ≤ 9223372036854775807) ∧ RdX w base (A.map (·.block)) p.1 xs
theorem OwnRw.nil (w : World) (base : Nat) : OwnRw w base none 0 [] := ⟨[], rfl, own_nil _ _ _, fun k p xs hp => by simp at hp⟩
theorem OwnRw.rd {w : World} {base : Nat} {A : Option Addr} {c : Nat} {rows : List (List Int)} (h : OwnRw w base A c rows) : RdRows w w.heap.size A rows := by
  obtain ⟨ps, hl, ho, hr⟩ := h
  exact rows_join (Rd.of_own ho) ⟨hl, fun k p xs hp hx => ⟨(hr k p xs hp hx).1.1, (hr k p xs hp hx).2.rd⟩⟩
theorem OwnRw.on {w w' : World} {base : Nat} {A : Option Addr} {c : Nat} {rows : List (List Int)} (h : OwnRw w base A c rows) (hb : Below w.heap.size w w') : OwnRw w' base A c rows := by
  obtain ⟨ps, hl, ho, hr⟩ := h
  exact ⟨ps, hl, own_on ho hb, fun k p xs hp hx => ⟨(hr k p xs hp hx).1, (hr k p xs hp hx).2.on hb⟩⟩
theorem OwnRw.set {w : World} {base : Nat} {A : Option Addr} {c : Nat} {rows : List (List Int)} (h : OwnRw w base A c rows) {p : Addr} (hp : p.block < base) (u : Value) : OwnRw (w.setCell p u) base A c rows := by
  obtain ⟨ps, hl, ho, hr⟩ := h
  exact ⟨ps, hl, own_set ho hp u, fun k q xs hq hx => ⟨(hr k q xs hq hx).1, (hr k q xs hq hx).2.set hp u⟩⟩
theorem OwnRw.cap {w : World} {base : Nat} {A : Option Addr} {c : Nat} {rows : List (List Int)} (h : OwnRw w base A c rows) : rows.length ≤ c ∧ c ≤ 9223372036854775807 := by
  obtain ⟨ps, hl, ho, hr⟩ := h
  rw [← hl]
  exact own_cap ho
theorem OwnRw.lies {w : World} {base : Nat} {A : Option Addr} {c : Nat} {rows : List (List Int)} (h : OwnRw w base A c rows) : ∀ g, A.map (·.block) = some g → base ≤ g ∧ g < w.heap.size := by
  obtain ⟨ps, hl, ho, hr⟩ := h
  exact row_in ho
theorem OwnRw.at_ {w : World} {base : Nat} {A : Option Addr} {c : Nat} {rows : List (List Int)} (h : OwnRw w base A c rows) {k : Nat} (hk : k < rows.length) :
    ∃ b off xs A' c', A = some ⟨b, off, none⟩ ∧ b < w.heap.size ∧ rows[k]? = some xs ∧ w.cell? ⟨b, off + k, none⟩ = some (.slice A' xs.length c') ∧ xs.length ≤ c' ∧ c' ≤ 9223372036854775807 ∧ Rd (Value.int .i64) w w.heap.size A' xs := by
  obtain ⟨ps, hl, ho, hr⟩ := h
  have hkp : k < ps.length := by omega
  obtain ⟨b, off, e, hb, hc⟩ := Rd.of_own ho k ps[k] (List.getElem?_eq_getElem hkp)
  have hx : rows[k]? = some rows[k] := List.getElem?_eq_getElem hk
  obtain ⟨⟨h1, h2, h3⟩, h4⟩ := hr k _ _ (List.getElem?_eq_getElem hkp) hx
  refine ⟨b, off, rows[k], ps[k].1, ps[k].2.2, e, hb, hx, ?_, by omega, h3, h4.rd⟩
  rw [hc]
  unfold encS
  rw [h1]
/-- One row appended. -/
theorem OwnRw.app {w w' : World} {base : Nat} {A A' : Option Addr} {c' : Nat} {rows : List (List Int)} {ps S : List Sl} {p : Sl} {xs : List Int}
    (hl : ps.length = rows.length) (hr : ∀ (k : Nat) (p : Sl) (xs : List Int), ps[k]? = some p → rows[k]? = some xs → (p.2.1 = xs.length ∧ p.2.1 ≤ p.2.2 ∧ p.2.2 ≤ 9223372036854775807) ∧ RdX w base (A.map (·.block)) p.1 xs)
    (hp : p.2.1 = xs.length ∧ p.2.1 ≤ p.2.2 ∧ p.2.2 ≤ 9223372036854775807) (hx : RdX w base (A.map (·.block)) p.1 xs)
    (hS : S = ps ++ [p]) (ho : w'.ownsRow base 22 1 (.slice A' S.length c') S.length (S.map encS)) (hg : w.grownBy w' (A.map (·.block))) (h5 : went A' A w.heap.size) : OwnRw w' base A' c' (rows ++ [xs]) := by
  subst hS
  refine ⟨ps ++ [p], by simp [hl], ho, fun k q ys hq hy => ?_⟩
  by_cases hk : k < ps.length
  · rw [List.getElem?_append_left hk] at hq
    rw [List.getElem?_append_left (by rw [← hl]; exact hk)] at hy
    exact ⟨(hr k q ys hq hy).1, (hr k q ys hq hy).2.grown hg h5⟩
  · have e : k = ps.length := by
      have := (List.getElem?_eq_some_iff.1 hq).1
      simp at this; omega
    subst e
    rw [List.getElem?_append_right (Nat.le_refl _)] at hq
    rw [hl, List.getElem?_append_right (Nat.le_refl _)] at hy
    simp at hq hy
    subst hq
    subst hy
    exact ⟨hp, hx.grown hg h5⟩
end Go.Proofs.Ytekpejemfkjhcaa
/- A range over a function: what a round keeps; an append in a round. -/
namespace Go.Proofs.Ytekpejemfkjhcaa
open Go.RowKit
set_option maxRecDepth 100000
set_option linter.unusedVariables false
section
variable {α : Type} {P : Program} {F : Fence} {nF : Nat}
end
/-- Two cells that a round leaves as they are. -/
def KpC (Bs Bn : Nat) (W W' : World) : Prop := W'.cell? ⟨Bs, 0, none⟩ = W.cell? ⟨Bs, 0, none⟩ ∧ W'.cell? ⟨Bn, 0, none⟩ = W.cell? ⟨Bn, 0, none⟩
theorem KpC.refl (Bs Bn : Nat) (W : World) : KpC Bs Bn W W := ⟨rfl, rfl⟩
theorem KpC.trans {Bs Bn : Nat} {X Y Z : World} (h : KpC Bs Bn X Y) (k : KpC Bs Bn Y Z) : KpC Bs Bn X Z := ⟨k.1.trans h.1, k.2.trans h.2⟩
theorem KpC.book {Bs Bn : Nat} {w : World} (hs : Bs < w.heap.size) (hn : Bn < w.heap.size) (W : World) (l : Nat) (o o' : Obj) (hl : w.heap.size ≤ l) (_ : W.heap[l]? = some o) (_ : o.isCells = false) (_ : o.isWalk = false) : KpC Bs Bn W (W.putObj l o') := by
  constructor
  · unfold World.cell?
    rw [World.putObj_heap_other (by show Bs ≠ l; omega)]
  · unfold World.cell?
    rw [World.putObj_heap_other (by show Bn ≠ l; omega)]
theorem KpC.below {Bs Bn : Nat} {W W' : World} (hs : Bs < W.heap.size) (hn : Bn < W.heap.size) (h : Below W.heap.size W W') : KpC Bs Bn W W' := ⟨h.cell (p := ⟨Bs, 0, none⟩) hs, h.cell (p := ⟨Bn, 0, none⟩) hn⟩
theorem KpC.set {Bs Bn : Nat} {W : World} {p : Addr} (hs : Bs ≠ p.block) (hn : Bn ≠ p.block) (v : Value) : KpC Bs Bn W (W.setCell p v) := by
  constructor
  · unfold World.cell?
    rw [heap_setCell_other _ _ _ _ (by exact hs)]
  · unfold World.cell?
    rw [heap_setCell_other _ _ _ _ (by exact hn)]
theorem KpC.grown {Bs Bn : Nat} {W W' : World} {r : Option Nat} (hs : Bs < W.heap.size) (hn : Bn < W.heap.size) (hg : W.grownBy W' r) (h1 : r ≠ some Bs) (h2 : r ≠ some Bn) : KpC Bs Bn W W' :=
  ⟨World.cell?_of_block (a := ⟨Bs, 0, none⟩) (hg.block Bs hs (fun e => h1 e.symm)), World.cell?_of_block (a := ⟨Bn, 0, none⟩) (hg.block Bn hn (fun e => h2 e.symm))⟩
end Go.Proofs.Ytekpejemfkjhcaa
/- Chunks of a list: what slices.Chunk hands on, one after the other. -/
namespace Go.Proofs.Ytekpejemfkjhcaa
open Go.RowKit
set_option maxHeartbeats 2000000
set_option maxRecDepth 100000
set_option linter.unusedVariables false
attribute [local go_sem] Oper.semAt_some
/-- Which chunk. -/
abbrev Nth (O : Nat) := { k : Nat // k < O }
theorem sq_step {k q O U : Nat} (hU : O * q = U) (hk : k < O) (hq : 1 ≤ q) (hU63 : U ≤ 9223372036854775807) : ∃ i j : Nat, k * q = i ∧ (k + 1) * q = j ∧ j = i + q ∧ j ≤ U ∧ i < U ∧ ¬ U - i < q := by
  have h2 : (k + 1) * q = k * q + q := Nat.succ_mul k q
  have h3 : (k + 1) * q ≤ O * q := Nat.mul_le_mul_right q hk
  have h4 : k * q + q ≤ U := by omega
  clear h2 h3 hU63
  refine ⟨k * q, k * q + q, rfl, Nat.succ_mul k q, rfl, h4, by omega, by omega⟩
theorem grown_drew (w : World) : w.grownBy w.drew none := ⟨rfl, rfl, rfl, Nat.le_refl _, fun _ _ _ => rfl⟩
theorem chunk_in (m : Nat) (hm : 1 ≤ m) (l Bs Bn b o U c q O : Nat) (hU : O * q = U) (hq : 1 ≤ q) (hUc : U ≤ c) (hc : c ≤ 9223372036854775807) (J Jx : List (Nth O) → World → Prop)
    {B0 : Nat} (hJ : AbidesFrom B0 J) (hY : ∀ pre x W, J pre W → pre.length < O → YieldAt Fence.wide (m - 1) Try.prog l #[.slice (some ⟨b, o + x.1 * q, none⟩) q q] W fun e W' =>
      (e = .returned (.bool true) ∧ J (pre ++ [x]) W' ∧ KpC Bs Bn W W') ∨ (e = .returned (.bool false) ∧ Jx (pre ++ [x]) W'))
    (W : World) (hBs : W.cell? ⟨Bs, 0, none⟩ = some (.slice (some ⟨b, o, none⟩) U c)) (hBn : W.cell? ⟨Bn, 0, none⟩ = some (.int .i64 (q : Int))) (h0 : J [] W) :
    CallsIn Fence.wide m Try.prog 66 #[.func (.yield l) #[] #[], .pointer (some ⟨Bs, 0, none⟩), .pointer (some ⟨Bn, 0, none⟩)] W fun e W' => (∃ v, e = .returned v) ∧
      ((∃ ys : List (Nth O), ys.map (·.1) = List.range O ∧ J ys W') ∨ (∃ pre : List (Nth O), (∃ k, k ≤ O ∧ pre.map (·.1) = List.range k) ∧ Jx pre W')) := by
  refine callsIn_of_wp Try.func66 rfl trivial ?_ rfl
  simp only [Try.ntmps66, List.size_toArray, List.length_cons, List.length_nil, Nat.reduceAdd, Nat.reduceSub, Array.replicate_succ, Array.replicate_zero, List.push_toArray, List.append_toArray, List.nil_append, List.cons_append]
  gi_wp2
  gi_loopw [4] (fun i wr => ∃ (k : Nat) (pre : List (Nth O)), k ≤ O ∧ i = .int .i64 ((k * q : Nat) : Int) ∧ pre.map (·.1) = List.range k ∧ J pre wr ∧ KpC Bs Bn W wr)
    (fun i _ => U - (intOf i).toNat)
  case atStart => exact ⟨0, [], Nat.zero_le _, by simp, rfl, h0, KpC.refl _ _ _⟩
  case round =>
    obtain ⟨k, pre, hk, rfl, hp, hJs, hkp⟩ := hrel
    have c1 := hkp.1.trans hBs
    have c2 := hkp.2.trans hBn
    have hpl : pre.length = k := by have := congrArg List.length hp; simpa using this
    by_cases hlt : k < O
    · obtain ⟨i, j, hi, hj, hij, hjU, hiU, hnm⟩ := sq_step hU hlt hq (Nat.le_trans hUc hc)
      obtain ⟨fn, tmps, assign, body, hy, hR⟩ := hY pre ⟨k, hlt⟩ wr.drew (hJ _ _ _ none hJs (grown_drew wr) (fun r e => by cases e)) (by omega)
      dsimp only at hy
      rw [hi] at hy
      rw [hi]
      have hKK := hid hj
      have HI := hid hi
      have HP := hid hp
      have HK := hid hkp
      have HR := hid hR
      have HJ := hid hJs
      have HIJ := hid hij
      have hw1 : wrap64 ((i : Int) + (q : Int)) = (j : Int) := by rw [hij]; exact Go.IntWalk.wrap64_in _ (by omega)
      have hiU2 : i ≤ U := by omega
      have hlt2 : (i : Int) < (U : Int) := by omega
      clear hj hi hp hkp hR hJs hij hk hY h0 hpl hBs hBn
      gi_wp2
      gi_region
      have c1' : (World.drew wr).cell? ⟨Bs, 0, none⟩ = some (.slice (some ⟨b, o, none⟩) U c) := c1
      have c2' : (World.drew wr).cell? ⟨Bn, 0, none⟩ = some (.int .i64 (q : Int)) := c2
      gi_wp2
      refine HR.out.mono ?_
      rintro e W3 (⟨rfl, hJ3, hk3⟩ | ⟨rfl, hJx3⟩)
      · have c3 : W3.cell? ⟨Bn, 0, none⟩ = some (.int .i64 (q : Int)) := hk3.2.trans c2'
        have hnx : Hid ((i : Int) + (q : Int) = (((k + 1) * q : Nat) : Int)) := hid (by rw [hKK.out, HIJ.out]; simp)
        clear c1 c2 c1' c2' hy HR HJ
        gi_wp2
        go_roundw
        case rel => exact ⟨k + 1, pre ++ [⟨k, hlt⟩], hlt, by rw [← hnx.out], by rw [List.map_append, HP.out, List.range_succ]; rfl, hJ3, HK.out.trans (KpC.trans ⟨rfl, rfl⟩ hk3)⟩
        case measure => simp [intOf]; omega
      · clear c1 c2 c1' c2' hy HR HJ
        gi_wp2
        refine bodyPost_ret (results_none rfl _ _ _) rfl ?_
        exact ⟨⟨_, rfl⟩, .inr ⟨pre ++ [⟨k, hlt⟩], ⟨k + 1, hlt, by rw [List.map_append, HP.out, List.range_succ]; rfl⟩, hJx3⟩⟩
    · obtain rfl : k = O := by omega
      rw [hU]
      gi_wp2
      go_end0
      exact ⟨⟨_, rfl⟩, .inl ⟨pre, hp, hJs⟩⟩
/-- slices.Chunk hands back what hands the chunks on. -/
theorem sq_Chunk {A : Option Addr} {U c : Nat} (q : Nat) (hq : 1 ≤ q) (hq2 : q ≤ 9223372036854775807) (w : World) :
    Calls Try.prog 47 #[.slice A U c, .int .i64 (q : Int)] w fun e w' => e = .returned (.func (.func 66) #[] #[.pointer (some ⟨w.heap.size, 0, none⟩), .pointer (some ⟨w.heap.size + 1, 0, none⟩)]) ∧ (w.alloc (.cells #[.slice A U c] 22)).alloc (.cells #[.int .i64 (q : Int)] 3) = w' := by
  have t0 : ¬ (q : Int) < 1 := by omega
  clear hq hq2
  go_enter Try.func47, Try.ntmps47
  go_wp2_with fail
  go_ret
  exact ⟨rfl, rfl⟩
/-- What it hands back: chunk after chunk, or the first of them. -/
theorem sq_stops {n : Nat} (hn : 1 ≤ n) {Bs Bn b o U c q O : Nat} (hU : O * q = U) (hq : 1 ≤ q) (hUc : U ≤ c) (hc : c ≤ 9223372036854775807) {w : World} (hs : Bs < w.heap.size) (hb : Bn < w.heap.size)
    (c1 : w.cell? ⟨Bs, 0, none⟩ = some (.slice (some ⟨b, o, none⟩) U c)) (c2 : w.cell? ⟨Bn, 0, none⟩ = some (.int .i64 (q : Int))) :
    SeqStopsK Fence.wide n Try.prog 66 #[.pointer (some ⟨Bs, 0, none⟩), .pointer (some ⟨Bn, 0, none⟩)] (fun x : Nth O => #[Value.slice (some ⟨b, o + x.1 * q, none⟩) q q]) (KpC Bs Bn)
      (fun ys => ys.map (·.1) = List.range O) (fun pre => ∃ k, k ≤ O ∧ pre.map (·.1) = List.range k) O w := fun l J Jx W hW hJ hJx hY h0 =>
  chunk_in n hn l Bs Bn b o U c q O hU hq hUc hc J Jx hJ hY W ((hW.cell (p := ⟨Bs, 0, none⟩) hs).trans c1) ((hW.cell (p := ⟨Bn, 0, none⟩) hb).trans c2) h0
end Go.Proofs.Ytekpejemfkjhcaa
/- A round that appends a row to a list of rows in a box. -/
namespace Go.Proofs.Ytekpejemfkjhcaa
open Go.RowKit
set_option maxHeartbeats 1000000
set_option maxRecDepth 100000
set_option linter.unusedVariables false
theorem bx_book {W W' : World} {B : Nat} {t : TypeId} {v : Value} {row : Option Nat} (h : Boxed W B t v) (hg : W.grownBy W' row) (hr : ∀ r, row = some r → ∃ o : Obj, W.heap[r]? = some o ∧ o.isCells = false) : Boxed W' B t v :=
  h.kept hg (fun e => by
    obtain ⟨o, ho, hc⟩ := hr B e.symm
    rw [show W.heap[B]? = _ from h] at ho; cases ho; cases hc)
theorem own_book {W W' : World} {base n c : Nat} {e : TypeId} {A : Option Addr} {vs : List Value} {row : Option Nat} (h : W.ownsRow base e 1 (.slice A n c) n vs) (hg : W.grownBy W' row) (hr : ∀ r, row = some r → ∃ o : Obj, W.heap[r]? = some o ∧ o.isCells = false) : W'.ownsRow base e 1 (.slice A n c) n vs := by
  refine h.kept hg ?_
  rcases h.2 with ⟨he, _⟩ | ⟨g, cap, cur, he, _, hgb, _⟩
  · exact .inl (by rw [he]; rfl)
  · refine .inr fun e' => ?_
    rw [he] at e'
    obtain ⟨o, ho, hc⟩ := hr g (by simpa [Value.ownBlock] using e'.symm)
    rw [hgb] at ho; cases ho; cases hc
theorem rdx_book {W W' : World} {base : Nat} {G A : Option Addr} {xs : List Int} {row : Option Nat} (h : RdX W base (G.map (·.block)) A xs) (hg : W.grownBy W' row) (hr : ∀ r, row = some r → ∃ o : Obj, W.heap[r]? = some o ∧ o.isCells = false) : RdX W' base (G.map (·.block)) A xs := fun j x hx => by
  obtain ⟨b, o, e, hB, hl, hn, hc, hf⟩ := h j x hx
  exact ⟨b, o, e, hB, Nat.lt_of_lt_of_le hl hg.size, hn, cell_kept hc hg hr, (frozen_kept hc hg hr).trans hf⟩
theorem rw_book {W W' : World} {base c : Nat} {A : Option Addr} {rows : List (List Int)} {row : Option Nat} (h : OwnRw W base A c rows) (hg : W.grownBy W' row) (hr : ∀ r, row = some r → ∃ o : Obj, W.heap[r]? = some o ∧ o.isCells = false) : OwnRw W' base A c rows := by
  obtain ⟨ps, hl, ho, hp⟩ := h
  exact ⟨ps, hl, own_book ho hg hr, fun k p xs h1 h2 => ⟨(hp k p xs h1 h2).1, rdx_book (hp k p xs h1 h2).2 hg hr⟩⟩
/-- Where the list lies: not in the boxes behind its first block. -/
def apart4 (S : Nat) (A : Option Addr) : Prop := ∀ g, A.map (·.block) = some g → g = S ∨ S + 4 ≤ g
theorem apart4.ne {S : Nat} {A : Option Addr} (h : apart4 S A) {k : Nat} (h1 : S < k) (h2 : k < S + 4) : A.map (·.block) ≠ some k := fun e => by have := h k e; omega
theorem apart4.app {S m : Nat} {A A' : Option Addr} (h : apart4 S A) (hm : S + 4 ≤ m) (h5 : went A' A m) : apart4 S A' := fun g e => by
  rcases h5 with h6 | h6
  · exact h g (by rw [← h6, e])
  · rw [h6] at e; injection e with e; omega
/-- What a round knows of the rows so far. -/
def RowsAt (S : Nat) (w : World) (rows : List (List Int)) (W : World) : Prop :=
  ∃ A c, apart4 S A ∧ Boxed W (S + 1) 33 (.slice A rows.length c) ∧ OwnRw W S A c rows ∧ S + 4 ≤ W.heap.size ∧ Below S w W
theorem RowsAt.book {S : Nat} {w : World} {rows : List (List Int)} {W W' : World} {row : Option Nat} (h : RowsAt S w rows W) (hS : S ≤ w.heap.size) (hg : W.grownBy W' row) (hr : ∀ r, row = some r → S ≤ r ∧ ∃ o : Obj, W.heap[r]? = some o ∧ o.isCells = false) : RowsAt S w rows W' := by
  obtain ⟨A, c, h1, h2, h3, h4, h5⟩ := h
  have hr2 : ∀ r, row = some r → ∃ o : Obj, W.heap[r]? = some o ∧ o.isCells = false := fun r e => (hr r e).2
  exact ⟨A, c, h1, bx_book h2 hg hr2, rw_book h3 hg hr2, Nat.le_trans h4 hg.size, h5.grown hg (Nat.le_trans hS h5.size) (fun k e => (hr k e).1)⟩
end Go.Proofs.Ytekpejemfkjhcaa
/- Lists of lines in memory: how one grows, in a range over a function as well. -/
namespace Go.Proofs.Ytekpejemfkjhcaa
open Go.RowKit
set_option maxHeartbeats 1000000
set_option maxRecDepth 100000
set_option linter.unusedVariables false
/-- A line in memory: where its numbers lie, and how many it sees. -/
abbrev Ln := Sl × Int
def lnC (p : Ln) : List Value := [encS p.1, .int .i64 p.2]
theorem lnC_len (p : Ln) : (lnC p).length = 2 := rfl
theorem info_ln : (Try.prog.info? 52).map (fun i => (i.zero, i.size, i.bytes)) = some (some (.agg #[.slice none 0 0, .int .i64 0]), 2, 32) := by kernel_rfl
/-- A list of lines of the call's own. -/
def OwnLn (w : World) (base : Nat) (A : Option Addr) (c : Nat) (ls : List Ln) : Prop := w.ownsRow base 52 2 (.slice A ls.length c) ls.length (ls.flatMap lnC)
theorem OwnLn.nil (w : World) (base : Nat) : OwnLn w base none 0 [] := World.ownsRow_nil w base 52 2
theorem lnC_at : ∀ (ls : List Ln) (k : Nat) (p : Ln), ls[k]? = some p → (ls.flatMap lnC)[k * 2]? = some (encS p.1) ∧ (ls.flatMap lnC)[k * 2 + 1]? = some (.int .i64 p.2)
  | [], k, p, h => by simp at h
  | q :: t, 0, p, h => by
    simp at h
    subst h
    exact ⟨rfl, rfl⟩
  | q :: t, k + 1, p, h => by
    have h2 : t[k]? = some p := by simpa using h
    obtain ⟨a, b⟩ := lnC_at t k p h2
    have e : (q :: t).flatMap lnC = encS q.1 :: .int .i64 q.2 :: t.flatMap lnC := rfl
    rw [e, show (k + 1) * 2 = k * 2 + 1 + 1 by omega]
    exact ⟨by simpa using a, by rw [show k * 2 + 1 + 1 + 1 = (k * 2 + 1) + 1 + 1 by omega]; simpa using b⟩
theorem lnC_all (ls : List Ln) : (ls.flatMap lnC).length = ls.length * 2 := by
  induction ls with
  | nil => rfl
  | cons q t ih => rw [List.flatMap_cons, List.length_append, ih, lnC_len, List.length_cons]; omega
theorem OwnLn.lies {w : World} {base : Nat} {A : Option Addr} {c : Nat} {ls : List Ln} (h : OwnLn w base A c ls) : ∀ g, A.map (·.block) = some g → base ≤ g ∧ g < w.heap.size := by
  intro b hb
  rcases h.2 with ⟨he, _⟩ | ⟨g, cap, cur, he, hg, hh, _⟩
  · simp only [Value.slice.injEq] at he
    rw [he.1] at hb
    cases hb
  · simp only [Value.slice.injEq] at he
    rw [he.1] at hb
    simp at hb
    subst hb
    exact ⟨hg, (Array.getElem?_eq_some_iff.1 hh).1⟩
theorem OwnLn.cap {w : World} {base : Nat} {A : Option Addr} {c : Nat} {ls : List Ln} (h : OwnLn w base A c ls) : ls.length ≤ c ∧ c ≤ 9223372036854775807 := by
  rcases h.2 with ⟨he, h0⟩ | ⟨g, cap, cur, he, _, _, h1, h2, _⟩
  · simp only [Value.slice.injEq] at he
    omega
  · simp only [Value.slice.injEq] at he
    unfold maxLen at h2
    omega
theorem OwnLn.at_ {w : World} {base : Nat} {A : Option Addr} {c : Nat} {ls : List Ln} (h : OwnLn w base A c ls) {k : Nat} {p : Ln} (hp : ls[k]? = some p) :
    ∃ b, A = some ⟨b, 0, none⟩ ∧ b < w.heap.size ∧ w.cell? ⟨b, 0 + k * 2, none⟩ = some (encS p.1) ∧ w.cell? ⟨b, 0 + k * 2 + 1, none⟩ = some (.int .i64 p.2) := by
  have hk : k < ls.length := (List.getElem?_eq_some_iff.1 hp).1
  obtain ⟨e1, e2⟩ := lnC_at ls k p hp
  have hl := lnC_all ls
  have h' := h
  rcases h.2 with ⟨he, h0⟩ | ⟨g, cap, cur, he, hg, hh, _⟩
  · omega
  · simp only [Value.slice.injEq] at he
    obtain ⟨rfl, _, rfl⟩ := he
    refine ⟨g, rfl, (Array.getElem?_eq_some_iff.1 hh).1, ?_, ?_⟩
    · rw [show 0 + k * 2 = k * 2 by omega, h'.cellAt (k * 2) (by omega)]; exact e1
    · rw [show 0 + k * 2 + 1 = k * 2 + 1 by omega, h'.cellAt (k * 2 + 1) (by omega)]; exact e2
theorem OwnLn.on {w w' : World} {base : Nat} {A : Option Addr} {c : Nat} {ls : List Ln} (h : OwnLn w base A c ls) (hb : Below w.heap.size w w') : OwnLn w' base A c ls := by
  refine ⟨h.1, ?_⟩
  rcases h.2 with hn | ⟨g, cap, cur, hv, hg, hh, r⟩
  · exact .inl hn
  · exact .inr ⟨g, cap, cur, hv, hg, (hb.block g (Array.getElem?_eq_some_iff.1 hh).1).trans hh, r⟩
theorem OwnLn.book {W W' : World} {base c : Nat} {A : Option Addr} {ls : List Ln} {row : Option Nat} (h : OwnLn W base A c ls) (hg : W.grownBy W' row) (hr : ∀ r, row = some r → ∃ o : Obj, W.heap[r]? = some o ∧ o.isCells = false) : OwnLn W' base A c ls := by
  refine ⟨h.1, ?_⟩
  rcases h.2 with hn | ⟨g, cap, cur, hv, hgb, hh, r⟩
  · exact .inl hn
  · refine .inr ⟨g, cap, cur, hv, hgb, (hg.block g (Array.getElem?_eq_some_iff.1 hh).1 ?_).trans hh, r⟩
    intro e
    obtain ⟨o, ho, hc⟩ := hr g e.symm
    rw [hh] at ho; cases ho; cases hc
theorem OwnLn.set {W : World} {base c : Nat} {A : Option Addr} {ls : List Ln} (h : OwnLn W base A c ls) {p : Addr} (hA : A.map (·.block) ≠ some p.block) (u : Value) : OwnLn (W.setCell p u) base A c ls := by
  refine ⟨h.1, ?_⟩
  rcases h.2 with hn | ⟨g, cap, cur, hv, hgb, hh, r⟩
  · exact .inl hn
  · refine .inr ⟨g, cap, cur, hv, hgb, (Below.heap_setCell W p u g ?_).trans hh, r⟩
    intro e
    simp only [Value.slice.injEq] at hv
    exact hA (by rw [hv.1, ← e]; rfl)
theorem keeps_appL {W W' : World} {base c : Nat} {A : Option Addr} {ls : List Ln} (ho : OwnLn W base A c ls) (hg : W.grownBy W' (A.map (·.block))) : KeepsOthers W W' :=
  KeepsOthers.of_grownBy hg fun j o ej hj => by
    rcases ho.2 with ⟨he, _⟩ | ⟨g, cap, cur, he, _, hgb, _⟩
    · simp only [Value.slice.injEq] at he
      obtain ⟨rfl, _⟩ := he
      cases ej
    · simp only [Value.slice.injEq] at he
      obtain ⟨rfl, _⟩ := he
      have ej' : g = j := by simpa using ej
      subst ej'
      rw [hgb] at hj; cases hj; rfl
theorem run_appL (w : World) (ty : TypeId) {base c0 : Nat} {A0 : Option Addr} {ls : List Ln} (ho : OwnLn w base A0 c0 ls) (m c : Nat) (p : Ln) (h0 : w.cell? ⟨m, 0, none⟩ = some (encS p.1)) (h1 : w.cell? ⟨m, 1, none⟩ = some (.int .i64 p.2))
    (hl : ls.length < 100000) (hbase : base ≤ w.heap.size) :
    ∃ A' c' w', (Builtin.append_ #[53, 53] ty #[.slice A0 ls.length c0, .slice (some ⟨m, 0, none⟩) 1 c]).run Try.prog w = .ok (.slice A' (ls.length + 1) c') w' ∧ OwnLn w' base A' c' (ls ++ [p]) ∧ Below base w w' ∧ w.grownBy w' (A0.map (·.block)) ∧ went A' A0 w.heap.size := by
  obtain ⟨i, hi, hzz⟩ := Option.map_eq_some_iff.1 info_ln
  simp only [Prod.mk.injEq] at hzz
  obtain ⟨hz, hs, hb⟩ := hzz
  obtain ⟨v', w', hrun, h2, h3, _, h5⟩ := run_append_own_at (P := Try.prog) w base 53 ty 52 i _ 2 32 Try.underlying53 hi hz hs hb rfl (by decide) _ ls.length _ ho ⟨m, 0, none⟩ 1 c (lnC p) rfl (by
    intro j u hu
    match j, hu with
    | 0, hu => simp only [lnC, List.getElem?_cons_zero, Option.some.injEq] at hu; subst hu; simpa [Addr.add] using h0
    | 1, hu => simp [lnC] at hu; subst hu; simpa [Addr.add] using h1
    | j + 2, hu => simp [lnC] at hu) (by
    intro u hu
    simp [lnC] at hu
    rcases hu with rfl | rfl <;> rfl) (by simp [maxLen]; omega) (by omega) hbase
  have hbl : Below base w w' := (Below.refl base w).grown h3 hbase fun k hk => (World.ownsRow.lt ho k hk).1
  have hsh : ∃ A' c', v' = .slice A' (ls.length + 1) c' := by
    rcases h2.2 with ⟨he, h0⟩ | ⟨g, cap, cur, he, _⟩
    · omega
    · exact ⟨_, _, he⟩
  obtain ⟨A', c', rfl⟩ := hsh
  rw [ob_eq] at h3
  rw [ob_eq, ob_eq] at h5
  refine ⟨A', c', w', hrun, ?_, hbl, h3, h5⟩
  unfold OwnLn
  rw [List.flatMap_append, List.length_append]
  simpa using h2
section
variable {F : Fence} {nF : Nat}
theorem wpListIn_appL (w : World) {ops : Array Oper} {rest : List Oper} {o : Oper} {a : Act} {Q : Exit → Act → World → Prop} (hgd : o.guard = none) (s x : Operand)
    (ho : o.op = .call { callee := .builtin .append, args := #[s, x], argTypes := #[53, 53] })
    {base c0 : Nat} {A0 : Option Addr} {ls : List Ln} (hs : a.eval s = .slice A0 ls.length c0) (hr : OwnLn w base A0 c0 ls) (m c : Nat) (hx : a.eval x = .slice (some ⟨m, 0, none⟩) 1 c) (p : Ln) (h0 : w.cell? ⟨m, 0, none⟩ = some (encS p.1)) (h1 : w.cell? ⟨m, 1, none⟩ = some (.int .i64 p.2))
    (hl : ls.length < 100000) (hbase : base ≤ w.heap.size)
    (h : ∀ A' c' w', OwnLn w' base A' c' (ls ++ [p]) → Below base w w' → w.grownBy w' (A0.map (·.block)) → went A' A0 w.heap.size → wpListIn F nF Try.prog ops Q rest (a.put o.dst (.slice A' (ls.length + 1) c')) w') : wpListIn F nF Try.prog ops Q (o :: rest) a w := by
  refine wpListIn_plain hgd fun _ hK => ?_
  obtain ⟨A', c', w', hrun, h2, h3, h4, h5⟩ := run_appL w o.type hr m c p h0 h1 hl hbase
  unfold Oper.wpIn
  refine ⟨by simp [Oper.about, ho, resolve, Target.leads, Sem.run_pure], ?_⟩
  rw [Oper.semAt_plain F _ _ (by rw [ho]; intro c hc'; cases hc')]
  unfold execOp
  simp only [ho, resolve, invoke, builtin, Sem.run_bind, Sem.run_pure, Result.andThen_ok, List.map_toArray, List.map_cons, List.map_nil, hs, hx, hrun]
  exact hK _ _ (h A' c' w' h2 h3 h4 h5)
end
/-- Where the lines lie: behind the boxes. -/
def apart5 (S : Nat) (A : Option Addr) : Prop := ∀ g, A.map (·.block) = some g → S + 5 ≤ g
theorem apart5.ne {S : Nat} {A : Option Addr} (h : apart5 S A) {k : Nat} (h2 : k < S + 5) : A.map (·.block) ≠ some k := fun e => by have := h k e; omega
theorem apart5.app {S m : Nat} {A A' : Option Addr} (h : apart5 S A) (hm : S + 5 ≤ m) (h5 : went A' A m) : apart5 S A' := fun g e => by
  rcases h5 with h6 | h6
  · exact h g (by rw [← h6, e])
  · rw [h6] at e; injection e with e; omega
theorem BoxL.book {W W' : World} {g : Nat} {vs : List Value} {row : Option Nat} (h : BoxL W g vs) (hg : W.grownBy W' row) (hr : ∀ r, row = some r → ∃ o : Obj, W.heap[r]? = some o ∧ o.isCells = false) : BoxL W' g vs := fun k v hv =>
  ⟨cell_kept (h k v hv).1 hg hr, (frozen_kept (h k v hv).1 hg hr).trans (h k v hv).2⟩
theorem BoxL.three {w : World} {g : Nat} {a b c : Value} (h : BoxL w g [a, b, c]) : (w.cell? ⟨g, 0, none⟩ = some a ∧ w.cell? ⟨g, 1, none⟩ = some b ∧ w.cell? ⟨g, 2, none⟩ = some c) ∧ w.frozen? ⟨g, 0, none⟩ = false ∧ w.frozen? ⟨g, 1, none⟩ = false ∧ w.frozen? ⟨g, 2, none⟩ = false :=
  ⟨⟨(h 0 a rfl).1, (h 1 b rfl).1, (h 2 c rfl).1⟩, (h 0 a rfl).2, (h 1 b rfl).2, (h 2 c rfl).2⟩
/-- What a round knows of the lines so far. -/
def NetAt (S : Nat) (w : World) (z : Value) (O m : Int) (ls : List Ln) (W : World) : Prop :=
  ∃ A c, apart5 S A ∧ BoxL W (S + 2) [z, .int .i64 O, .slice A ls.length c] ∧ BoxL W (S + 1) [.int .i64 m] ∧ BoxL W S [.slice none 0 0, .int .i64 0, .slice none 0 0] ∧ OwnLn W S A c ls ∧ S + 5 ≤ W.heap.size ∧ Below S w W
theorem NetAt.book {S : Nat} {w : World} {z : Value} {O m : Int} {ls : List Ln} {W W' : World} {row : Option Nat} (h : NetAt S w z O m ls W) (hS : S ≤ w.heap.size) (hg : W.grownBy W' row) (hr : ∀ r, row = some r → S ≤ r ∧ ∃ o : Obj, W.heap[r]? = some o ∧ o.isCells = false) : NetAt S w z O m ls W' := by
  obtain ⟨A, c, h1, h2, h3, h4, h5, h6, h7⟩ := h
  have hr2 : ∀ r, row = some r → ∃ o : Obj, W.heap[r]? = some o ∧ o.isCells = false := fun r e => (hr r e).2
  exact ⟨A, c, h1, h2.book hg hr2, h3.book hg hr2, h4.book hg hr2, h5.book hg hr2, Nat.le_trans h6 hg.size, h7.grown hg (Nat.le_trans hS h7.size) (fun k e => (hr k e).1)⟩
/-- A round is over. -/
theorem net_round {S c2 c8 : Nat} {w W w8 : World} {A2 A8 : Option Addr} {z : Value} {O m : Int} {ls : List Ln} {p : Ln} {t : TypeId}
    (hS : S ≤ w.heap.size) (ha : apart5 S A2) (h2 : BoxL W (S + 2) [z, .int .i64 O, .slice A2 ls.length c2]) (h3 : BoxL W (S + 1) [.int .i64 m]) (h4 : BoxL W S [.slice none 0 0, .int .i64 0, .slice none 0 0]) (ho : OwnLn W S A2 c2 ls) (hsz : S + 5 ≤ W.heap.size) (hB : Below S w W)
    (ho8 : OwnLn w8 S A8 c8 (ls ++ [p])) (hb8 : Below S (W.alloc (.cells #[encS p.1, .int .i64 p.2] t)) w8) (hg8 : (W.alloc (.cells #[encS p.1, .int .i64 p.2] t)).grownBy w8 (A2.map (·.block))) (hq8 : went A8 A2 (W.alloc (.cells #[encS p.1, .int .i64 p.2] t)).heap.size) (B : Nat) :
    KeepsFrom B W (w8.setCell ⟨S + 2, 2, none⟩ (.slice A8 (ls.length + 1) c8)) ∧ KpC (S + 3) (S + 4) W (w8.setCell ⟨S + 2, 2, none⟩ (.slice A8 (ls.length + 1) c8)) ∧ NetAt S w z O m (ls ++ [p]) (w8.setCell ⟨S + 2, 2, none⟩ (.slice A8 (ls.length + 1) c8)) := by
  obtain ⟨w7, hw7⟩ : ∃ w7, W.alloc (.cells #[encS p.1, .int .i64 p.2] t) = w7 := ⟨_, rfl⟩
  have g7 : Below W.heap.size W w7 := by rw [← hw7]; exact (Below.refl _ _).alloc (Nat.le_refl _) _
  have hk7 : KeepsOthers W w7 := by rw [← hw7]; exact KeepsOthers.alloc _ _
  rw [hw7] at hb8 hg8 hq8
  have hz7 : W.heap.size ≤ w7.heap.size := g7.size
  have ha8 : apart5 S A8 := ha.app (by omega) hq8
  have ho7 := ho.on g7
  have f2 : BoxL w8 (S + 2) [z, .int .i64 O, .slice A2 ls.length c2] := (h2.below g7 (by omega)).far hg8 (fun e => ha.ne (k := S + 2) (by omega) e.symm) (by omega)
  have f3 : BoxL w8 (S + 1) [.int .i64 m] := (h3.below g7 (by omega)).far hg8 (fun e => ha.ne (k := S + 1) (by omega) e.symm) (by omega)
  have f4 : BoxL w8 S [.slice none 0 0, .int .i64 0, .slice none 0 0] := (h4.below g7 (by omega)).far hg8 (fun e => ha.ne (k := S) (by omega) e.symm) (by omega)
  have f2' := f2.one (k := 2) rfl (.slice A8 (ls.length + 1) c8)
  have f3' := f3.other (p := ⟨S + 2, 2, none⟩) (by show S + 2 ≠ S + 1; omega) (.slice A8 (ls.length + 1) c8)
  have f4' := f4.other (p := ⟨S + 2, 2, none⟩) (by show S + 2 ≠ S; omega) (.slice A8 (ls.length + 1) c8)
  have hSl : ls.length + 1 = (ls ++ [p]).length := by rw [List.length_append]; rfl
  rw [hSl] at f2' f3' f4' ⊢
  refine ⟨?_, ?_, A8, c8, ha8, f2', f3', f4', ho8.set (ha8.ne (by show S + 2 < S + 5; omega)) _, ?_, ?_⟩
  · exact ((hk7.trans (keeps_appL ho7 hg8)).trans (KeepsOthers.setCell _ _ _)).from B
  · refine KpC.trans (KpC.trans (KpC.below (by omega) (by omega) g7) (KpC.grown (by omega) (by omega) hg8 (ha.ne (by omega)) (ha.ne (by omega)))) (KpC.set (by show S + 3 ≠ S + 2; omega) (by show S + 4 ≠ S + 2; omega) _)
  · have := hg8.size
    simp
    omega
  · exact (hB.trans ((g7.mono (by omega)).trans hb8)).setCell (p := ⟨S + 2, 2, none⟩) (by show S ≤ S + 2; omega) _
/-- Lines that lie so: where each one's numbers lie, and how many it sees. -/
def RdLn (w : World) (B : Nat) (A : Option Addr) (rows : List (List Int)) (m : Int) : Prop :=
  ∀ (k : Nat) (r : List Int), rows[k]? = some r → ∃ b off Ar cr, A = some ⟨b, off, none⟩ ∧ b < B ∧ w.cell? ⟨b, off + k * 2, none⟩ = some (.slice Ar r.length cr) ∧ w.cell? ⟨b, off + k * 2 + 1, none⟩ = some (.int .i64 m) ∧ r.length ≤ cr ∧ cr ≤ 9223372036854775807 ∧ Rd (Value.int .i64) w B Ar r
theorem RdLn.below {w w' : World} {B : Nat} {A : Option Addr} {ls : List (List Int)} {m : Int} (h : RdLn w B A ls m) (hb : Below B w w') : RdLn w' B A ls m := fun k x hx => by
  obtain ⟨b, off, Ax, cx, e, hl, h0, h1, h3, h4, h2⟩ := h k x hx
  exact ⟨b, off, Ax, cx, e, hl, (hb.cell (p := ⟨b, off + k * 2, none⟩) hl).trans h0, (hb.cell (p := ⟨b, off + k * 2 + 1, none⟩) hl).trans h1, h3, h4, h2.below hb⟩
theorem RdLn.more {w : World} {B B' : Nat} {A : Option Addr} {ls : List (List Int)} {m : Int} (h : RdLn w B A ls m) (hB : B ≤ B') : RdLn w B' A ls m := fun k x hx => by
  obtain ⟨b, off, Ax, cx, e, hl, h0, h1, h3, h4, h2⟩ := h k x hx
  exact ⟨b, off, Ax, cx, e, by omega, h0, h1, h3, h4, h2.more hB⟩
theorem RdLn.on {w w' : World} {A : Option Addr} {ls : List (List Int)} {m : Int} (h : RdLn w w.heap.size A ls m) (hb : Below w.heap.size w w') : RdLn w' w'.heap.size A ls m := (h.below hb).more hb.size
theorem RdLn.at_ {w : World} {B : Nat} {A : Option Addr} {ls : List (List Int)} {m : Int} (h : RdLn w B A ls m) {k : Nat} (hk : k < ls.length) :
    ∃ b off r Ar cr, A = some ⟨b, off, none⟩ ∧ b < B ∧ ls[k]? = some r ∧ w.cell? ⟨b, off + k * 2, none⟩ = some (.slice Ar r.length cr) ∧ w.cell? ⟨b, off + k * 2 + 1, none⟩ = some (.int .i64 m) ∧ r.length ≤ cr ∧ cr ≤ 9223372036854775807 ∧ Rd (Value.int .i64) w B Ar r := by
  obtain ⟨b, off, Ax, cx, e, hb, h0, h1, h3, h4, h2⟩ := h k ls[k] (List.getElem?_eq_getElem hk)
  exact ⟨b, off, ls[k], Ax, cx, e, hb, List.getElem?_eq_getElem hk, h0, h1, h3, h4, h2⟩
end Go.Proofs.Ytekpejemfkjhcaa
/- Plain facts on a division bit by bit. No program in sight. -/
namespace Go.Proofs.Ytekpejemfkjhcaa
open Go.RowKit
set_option maxRecDepth 100000
set_option linter.unusedVariables false

structure OvR (h l y : Int) (n : Nat) (left q : Int) (f : Bool) : Prop where
  nle : n ≤ 128
  left : left = (h * 18446744073709551616 + l) / 2 ^ n % y
  q0 : U64 q
  big : 64 ≤ n → q = 0 ∧ (f = true ↔ (h * 18446744073709551616 + l) / 2 ^ n < y)
  small : n ≤ 64 → (f = true ↔ h < y) ∧ (h < y → q = (h * 18446744073709551616 + l) / 2 ^ n / y * 2 ^ n)

variable {h l y left q : Int} {n : Nat} {f : Bool}

theorem ov_start (hh : U64 h) (hl : U64 l) (hy : 1 ≤ y) : OvR h l y 128 0 0 true := by
  have e : (h * 18446744073709551616 + l) / 2 ^ 128 = 0 := by
    unfold U64 at *
    exact Int.ediv_eq_zero_of_lt (by omega) (by omega)
  refine ⟨by decide, by rw [e]; simp, by unfold U64; omega, fun _ => ⟨rfl, by rw [e]; simp; omega⟩, fun h => by omega⟩
theorem ov_bit (U : Int) (n : Nat) : U / 2 ^ n = 2 * (U / 2 ^ (n + 1)) + U / 2 ^ n % 2 := by
  rw [Int.pow_succ, ← Int.ediv_ediv_of_nonneg (Int.le_of_lt (Int.pow_pos (by decide)))]
  omega
theorem ov_div {T T' b y left : Int} (hy : 1 ≤ y) (e : T' = 2 * T + b) (hb : 0 ≤ b ∧ b ≤ 1) (hl : left = T % y) :
    (y ≤ 2 * left + b ∧ T' % y = 2 * left + b - y ∧ T' / y = 2 * (T / y) + 1) ∨ (2 * left + b < y ∧ T' % y = 2 * left + b ∧ T' / y = 2 * (T / y)) := by
  have k := Int.mul_ediv_add_emod T y
  have k1 := Int.emod_nonneg T (show y ≠ 0 by omega)
  have k2 := Int.emod_lt_of_pos T (show 0 < y by omega)
  rw [← hl] at k k1 k2
  rcases Int.lt_or_le (2 * left + b) y with c | c
  · right
    have e2 : T' = (2 * left + b) + 2 * (T / y) * y := by rw [Int.mul_assoc, Int.mul_comm (T / y)]; omega
    rw [e2, Int.add_mul_emod_self_right, Int.add_mul_ediv_right _ _ (by omega), Int.emod_eq_of_lt (by omega) c, Int.ediv_eq_zero_of_lt (by omega) c]
    omega
  · left
    have e2 : T' = (2 * left + b - y) + (2 * (T / y) + 1) * y := by rw [Int.add_mul, Int.one_mul, Int.mul_assoc, Int.mul_comm (T / y)]; omega
    rw [e2, Int.add_mul_emod_self_right, Int.add_mul_ediv_right _ _ (by omega), Int.emod_eq_of_lt (by omega) (by omega), Int.ediv_eq_zero_of_lt (by omega) (by omega)]
    omega
/-- A round above the 64th bit. -/
theorem ov_high (hh : U64 h) (hl : U64 l) (hy : 1 ≤ y) (hn : 64 ≤ n) (r : OvR h l y (n + 1) left q f) (b : Int) (hb : (h * 18446744073709551616 + l) / 2 ^ n % 2 = b) :
    (y ≤ 2 * left + b → OvR h l y n (2 * left + b - y) q false) ∧ (2 * left + b < y → OvR h l y n (2 * left + b) q f) := by
  obtain ⟨r1, r2, r3, r4, r5⟩ := r
  obtain ⟨r6, r7⟩ := r4 (by omega)
  have e := ov_bit (h * 18446744073709551616 + l) n
  have hU : 0 ≤ h * 18446744073709551616 + l := by unfold U64 at *; omega
  have hp : (0 : Int) < 2 ^ n := Int.pow_pos (by decide)
  have hp1 : (0 : Int) < 2 ^ (n + 1) := Int.pow_pos (by decide)
  have hT : 0 ≤ (h * 18446744073709551616 + l) / 2 ^ (n + 1) := Int.ediv_nonneg hU (Int.le_of_lt hp1)
  have h64 : n = 64 → (h * 18446744073709551616 + l) / 2 ^ n = h := by
    rintro rfl
    unfold U64 at *
    omega
  rw [hb] at e
  have b01 : 0 ≤ b ∧ b ≤ 1 := by omega
  have d := ov_div hy e b01 r2
  generalize hTe : (h * 18446744073709551616 + l) / 2 ^ n = T' at e d hb
  generalize (h * 18446744073709551616 + l) / 2 ^ (n + 1) = T at *
  rw [hTe] at h64
  have kq : T < y ↔ T / y = 0 := by
    constructor
    · intro c; exact Int.ediv_eq_zero_of_lt hT c
    · intro c; have := Int.lt_ediv_add_one_mul_self T (show 0 < y by omega); rw [c] at this; omega
  have hT' : 0 ≤ T' := by omega
  have kq' : T' < y ↔ T' / y = 0 := by
    constructor
    · intro c; exact Int.ediv_eq_zero_of_lt hT' c
    · intro c; have := Int.lt_ediv_add_one_mul_self T' (show 0 < y by omega); rw [c] at this; omega
  have hTy : 0 ≤ T / y := Int.ediv_nonneg hT (by omega)
  constructor
  · intro c
    rcases d with ⟨d1, d2, d3⟩ | ⟨d1, _, _⟩
    · have nf : ¬ T' < y := by rw [kq', d3]; omega
      refine ⟨by omega, by rw [hTe]; exact d2.symm, r3, fun _ => ⟨r6, by rw [hTe]; simp; omega⟩, fun hs => ?_⟩
      have := h64 (by omega)
      rw [this] at nf
      exact ⟨by simp; omega, fun c => absurd c nf⟩
    · omega
  · intro c
    rcases d with ⟨d1, _, _⟩ | ⟨d1, d2, d3⟩
    · omega
    · have ff : f = true ↔ T' < y := by rw [r7, kq, kq', d3]; omega
      refine ⟨by omega, by rw [hTe]; exact d2.symm, r3, fun _ => ⟨r6, by rw [hTe]; exact ff⟩, fun hs => ?_⟩
      have e4 := h64 (by omega)
      rw [hTe, e4]
      rw [e4] at ff kq'
      refine ⟨ff, fun c => ?_⟩
      rw [r6, kq'.1 c, Int.zero_mul]
theorem or_u64 (x z : Int) : U64 (bits BinOp.or IntKind.u64 x z) := by
  show U64 (IntKind.u64.wrap ((BitVec.ofInt 64 x ||| BitVec.ofInt 64 z).toNat : Int))
  exact U64.wrap _
/-- A round below it. -/
theorem ov_low (hh : U64 h) (hl : U64 l) (hy : 1 ≤ y) (hn : n < 64) (r : OvR h l y (n + 1) left q f) (b : Int) (hb : (h * 18446744073709551616 + l) / 2 ^ n % 2 = b) :
    (y ≤ 2 * left + b → OvR h l y n (2 * left + b - y) (bits BinOp.or IntKind.u64 q (2 ^ n)) f) ∧ (2 * left + b < y → OvR h l y n (2 * left + b) q f) := by
  obtain ⟨r1, r2, r3, r4, r5⟩ := r
  obtain ⟨r6, r7⟩ := r5 (by omega)
  have e := ov_bit (h * 18446744073709551616 + l) n
  have hU : 0 ≤ h * 18446744073709551616 + l := by unfold U64 at *; omega
  have hp : (0 : Int) < 2 ^ n := Int.pow_pos (by decide)
  have hp1 : (0 : Int) < 2 ^ (n + 1) := Int.pow_pos (by decide)
  have e2 : (2 : Int) ^ (n + 1) = 2 ^ n * 2 := Int.pow_succ 2 n
  have hT : 0 ≤ (h * 18446744073709551616 + l) / 2 ^ (n + 1) := Int.ediv_nonneg hU (Int.le_of_lt hp1)
  rw [hb] at e
  have b01 : 0 ≤ b ∧ b ≤ 1 := by omega
  have d := ov_div hy e b01 r2
  generalize hTe : (h * 18446744073709551616 + l) / 2 ^ n = T' at e d hb
  generalize (h * 18446744073709551616 + l) / 2 ^ (n + 1) = T at *
  have hTy : 0 ≤ T / y := Int.ediv_nonneg hT (by omega)
  constructor
  · intro c
    rcases d with ⟨d1, d2, d3⟩ | ⟨d1, _, _⟩
    · refine ⟨by omega, by rw [hTe]; exact d2.symm, or_u64 _ _, fun c => by omega, fun _ => ⟨r6, fun hc => ?_⟩⟩
      rw [hTe]
      have q1 := r7 hc
      have q2 := r3.2
      have p64 : (2 : Int) ^ (n + 1) ≤ 18446744073709551616 := by
        have hx : 2 ^ (n + 1) ≤ 2 ^ 64 := Nat.pow_le_pow_right (show 0 < 2 by decide) (show n + 1 ≤ 64 by omega)
        have h2 : ((2 ^ (n + 1) : Nat) : Int) ≤ ((2 ^ 64 : Nat) : Int) := Int.ofNat_le.2 hx
        rw [Int.natCast_pow] at h2
        exact h2
      have hm : q % 2 ^ (n + 1) = 0 := by rw [q1]; exact Int.mul_emod_left _ _
      rw [bits_join .u64 64 (by decide) (fun n h0 h1 => by rw [IntKind.wrap_u64]; omega) (n + 1) q (2 ^ n) r3.1 hm (by omega) (by omega) (by omega) (by omega)]
      rw [q1, d3, e2, Int.add_mul, Int.one_mul, ← Int.mul_assoc, Int.mul_right_comm, Int.mul_comm _ 2]
    · omega
  · intro c
    rcases d with ⟨d1, _, _⟩ | ⟨d1, d2, d3⟩
    · omega
    · refine ⟨by omega, by rw [hTe]; exact d2.symm, r3, fun c => by omega, fun _ => ⟨r6, fun hc => ?_⟩⟩
      rw [hTe]
      rw [r7 hc, d3, e2, ← Int.mul_assoc, Int.mul_right_comm, Int.mul_comm _ 2]
end Go.Proofs.Ytekpejemfkjhcaa
/- A list of rows of the call's own whose numbers may be set, whatever they are: what a loop that sets them keeps. -/
namespace Go.Proofs.Ytekpejemfkjhcaa
open Go.RowKit
set_option maxRecDepth 100000
set_option linter.unusedVariables false
/-- So many int64 of the call's own, not in the block of the list of rows; they may be set. -/
def IntX (w : World) (base : Nat) (G : Option Nat) (A : Option Addr) (n : Nat) : Prop :=
  ∀ j, j < n → ∃ b o x, A = some ⟨b, o, none⟩ ∧ base ≤ b ∧ G ≠ some b ∧ w.cell? ⟨b, o + j, none⟩ = some (.int .i64 x) ∧ w.frozen? ⟨b, o + j, none⟩ = false
theorem IntX.of_rdx {w : World} {base : Nat} {G : Option Nat} {A : Option Addr} {xs : List Int} (h : RdX w base G A xs) : IntX w base G A xs.length := fun j hj => by
  obtain ⟨b, o, e, hb, _, hG, hc, hf⟩ := h j _ (List.getElem?_eq_getElem hj)
  exact ⟨b, o, _, e, hb, hG, hc, hf⟩
theorem IntX.set {w : World} {base n : Nat} {G : Option Nat} {A : Option Addr} (h : IntX w base G A n) {p : Addr} {x : Int} (hp : w.cell? p = some (.int .i64 x)) (y : Int) : IntX (w.setCell p (.int .i64 y)) base G A n := fun j hj => by
  obtain ⟨b, o, z, e, hb, hG, hc, hf⟩ := h j hj
  by_cases hpe : p = ⟨b, o + j, none⟩
  · exact ⟨b, o, y, e, hb, hG, by rw [← hpe]; exact World.cell?_setCell_same _ _ _ hp, (World.frozen?_setCell _ _ _ _).trans hf⟩
  · exact ⟨b, o, z, e, hb, hG, (World.cell?_setCell_other _ _ _ _ hpe).trans hc, (World.frozen?_setCell _ _ _ _).trans hf⟩
theorem IntX.on {w w' : World} {base n : Nat} {G : Option Nat} {A : Option Addr} (h : IntX w base G A n) (hb : Below w.heap.size w w') : IntX w' base G A n := fun j hj => by
  obtain ⟨b, o, z, e, hB, hG, hc, hf⟩ := h j hj
  have hl : b < w.heap.size := lt_of_cell hc
  exact ⟨b, o, z, e, hB, hG, (hb.cell (p := ⟨b, o + j, none⟩) hl).trans hc, (hb.frozen (p := ⟨b, o + j, none⟩) hl).trans hf⟩
/-- A list of so many rows of the call's own, each so long, whose numbers may be set. -/
def OwnRx (w : World) (base : Nat) (A : Option Addr) (L : Nat) : Prop :=
  ∀ k, k < L → ∃ g off A' m c', A = some ⟨g, off, none⟩ ∧ w.cell? ⟨g, off + k, none⟩ = some (.slice A' m c') ∧ m ≤ c' ∧ c' ≤ 9223372036854775807 ∧ IntX w base (some g) A' m
theorem OwnRx.of_rw {w : World} {base c : Nat} {A : Option Addr} {rows : List (List Int)} (h : OwnRw w base A c rows) : OwnRx w base A rows.length := fun k hk => by
  obtain ⟨ps, hl, ho, hr⟩ := h
  have hkp : k < ps.length := by omega
  obtain ⟨b, off, e, hb, hc⟩ := Rd.of_own ho k ps[k] (List.getElem?_eq_getElem hkp)
  have hx : rows[k]? = some rows[k] := List.getElem?_eq_getElem hk
  obtain ⟨⟨h1, h2, h3⟩, h4⟩ := hr k _ _ (List.getElem?_eq_getElem hkp) hx
  have h5 := IntX.of_rdx h4
  rw [e] at h5
  refine ⟨b, off, ps[k].1, rows[k].length, ps[k].2.2, e, ?_, by omega, h3, h5⟩
  rw [hc]
  unfold encS
  rw [h1]
theorem OwnRx.set {w : World} {base L : Nat} {A : Option Addr} (h : OwnRx w base A L) {p : Addr} {x : Int} (hp : w.cell? p = some (.int .i64 x)) (hA : ∀ g, A.map (·.block) = some g → g ≠ p.block) (y : Int) : OwnRx (w.setCell p (.int .i64 y)) base A L := fun k hk => by
  obtain ⟨g, off, A', m, c', e, hc, h1, h2, h3⟩ := h k hk
  refine ⟨g, off, A', m, c', e, ?_, h1, h2, h3.set hp y⟩
  refine (World.cell?_setCell_other _ _ _ _ ?_).trans hc
  intro e2
  exact hA g (by rw [e]; rfl) (by rw [e2])
theorem OwnRx.on {w w' : World} {base L : Nat} {A : Option Addr} (h : OwnRx w base A L) (hb : Below w.heap.size w w') : OwnRx w' base A L := fun k hk => by
  obtain ⟨g, off, A', m, c', e, hc, h1, h2, h3⟩ := h k hk
  have hl : g < w.heap.size := lt_of_cell hc
  exact ⟨g, off, A', m, c', e, (hb.cell (p := ⟨g, off + k, none⟩) hl).trans hc, h1, h2, h3.on hb⟩
end Go.Proofs.Ytekpejemfkjhcaa
/- Words for bytes and numbers of 64 bits: their types, a list that a call tells. -/
namespace Go.Proofs.Ytekpejemfkjhcaa
open Go.RowKit
set_option maxRecDepth 100000
set_option linter.unusedVariables false
theorem cells_i64' : Try.prog.cellsOf 2 = 1 := by kernel_rfl
/-- A call's answer: a list in memory that lies from base on; nothing below base has turned. -/
def OwnOf (t : TypeId) (k : IntKind) (base : Nat) (xs : List Int) (w : World) (e : Ending) (w' : World) : Prop :=
  ∃ A c, e = .returned (.slice A xs.length c) ∧ w'.ownsRow base t 1 (.slice A xs.length c) xs.length (xs.map (Value.int k)) ∧ Below base w w'
theorem OwnOf.onto {t : TypeId} {k : IntKind} {xs : List Int} {B : Nat} {w wl w' : World} {e : Ending} (h : OwnOf t k wl.heap.size xs wl e w') (hb : Below B w wl) (hB : B ≤ wl.heap.size) : OwnOf t k B xs w e w' := by
  obtain ⟨A, c, he, ho, hk⟩ := h
  exact ⟨A, c, he, own_base ho hB, hb.trans (hk.mono hB)⟩
/-- A call's answer: a list in memory of the call's own, and a number beside it (an error). -/
def OwnE (t : TypeId) (k : IntKind) (base : Nat) (xs : List Int) (er : Int) (w : World) (e : Ending) (w' : World) : Prop :=
  ∃ A c, e = .returned (.tuple #[.slice A xs.length c, .int .i64 er]) ∧ w'.ownsRow base t 1 (.slice A xs.length c) xs.length (xs.map (Value.int k)) ∧ Below base w w'
theorem OwnE.nil {t : TypeId} {k : IntKind} {base : Nat} {er : Int} {w w' : World} (hb : Below base w w') : OwnE t k base [] er w (.returned (.tuple #[.slice none 0 0, .int .i64 er])) w' := ⟨none, 0, rfl, own_nil _ _ _, hb⟩
end Go.Proofs.Ytekpejemfkjhcaa
