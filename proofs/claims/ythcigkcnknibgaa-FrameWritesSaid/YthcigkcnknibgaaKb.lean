
/- Kb: texts joined: IxB Rws IxC IxE PlA PlB PlC PlD PlE PlF FrA FsA Fun IxQ PlO PlQ Box FrN CrcA CrcB. -/
import Derived.Test.YthcigkcnknibgaaKa
import Derived.RegionTactic
import Derived.ChangeAlike
import Derived.Deep.RegionHeld3
import Derived.Test.YthcigkcnknibgaaShelf
import Derived.Shelf.Slices.Empties
import Derived.Deep.QuietTactic
import Derived.BigQuiet
import Derived.StillTailTactics
/- Places written and read, by the document. -/
namespace Go.Proofs.Ythcigkcnknibgaa
open Go.RowKit
set_option maxHeartbeats 400000
set_option maxRecDepth 100000
set_option linter.unusedVariables false
/-- A call's answer: places of the call's own, where it ends, an error. -/
def OwnG (r : List Int × Int × Int) (w : World) (e : Ending) (w' : World) : Prop :=
  ∃ A c, e = .returned (.tuple #[.slice A r.1.length c, .int .i64 r.2.1, .int .i64 r.2.2]) ∧ w'.ownsRow w.heap.size 3 1 (.slice A r.1.length c) r.1.length (r.1.map (Value.int .i64)) ∧ Below w.heap.size w w'
theorem OwnG.nil {er : Int} {w w' : World} (hb : Below w.heap.size w w') : OwnG ([], 0, er) w (.returned (.tuple #[.slice none 0 0, .int .i64 0, .int .i64 er])) w' := ⟨none, 0, rfl, own_nil _ _ _, hb⟩
theorem plc_take {dim : Int} {l : List Int} (h : plcP dim l) (k : Nat) : plcP dim (l.take k) := ⟨h.1, h.2.1, ris_take h.2.2.1 k, fun n hn => h.2.2.2 n (List.mem_of_mem_take hn)⟩
/-- The codes of how many there are, and of the first ones. -/
def putK (l : List Int) (k : Nat) : List Int := encs ((l.length : Int) :: gapsF (-1) (l.take k))
theorem putK_step {l : List Int} {k : Nat} {x : Int} (h : l[k]? = some x) : putK l (k + 1) = putK l k ++ encs [x - lastI (-1) (l.take k) - 1] := by
  unfold putK
  rw [putL_step h, ← List.cons_append, encs_app]
theorem putK_len {dim : Int} {l : List Int} (h : plcP dim l) (k : Nat) : (putK l k).length ≤ 41000 := by
  have h1 := plc_le h
  have h2 := plc_le (plc_take h k)
  have hd := h.2.1
  have hu : U64s ((l.length : Int) :: gapsF (-1) (l.take k)) := by
    have hp := plc_take h k
    intro x hx
    rcases List.mem_cons.1 hx with rfl | hx
    · unfold U64; omega
    · exact gaps_u64 _ (-1) (plc_cons hp) (by omega) (fun n hn => by have := hp.2.2.2 n hn; omega) x hx
  have := encs_len hu
  unfold putK
  rw [List.length_cons, gaps_len] at this
  omega
theorem putK_all (l : List Int) : putK l l.length = encs (putL l) := by unfold putK putL; rw [List.take_length]
theorem ref_PutIx {A : Option Addr} {c : Nat} (dim : Int) (l : List Int) (hd : I64 dim) (hl : l.length ≤ 9223372036854775807) (w : World) (ra : Rd (Value.int .i64) w w.heap.size A l) :
    Calls Try.prog 28 #[.int .i64 dim, .slice A l.length c] w (OwnE 5 .u8 w.heap.size (pixV dim l) (chkE dim l) w) := by
  have C := hid (ref_Check (A := A) (c := c) dim l hd hl w ra)
  by_cases h : chkE dim l = 0
  · have hp := chk_ok.1 h
    have hlen := plc_le hp
    have hd4 := hp.2.1
    have e : pixV dim l = putK l l.length := by unfold pixV; rw [if_pos h, putK_all]
    rw [h] at C
    rw [h, e]
    have RA := hid ra
    have HS0 : Hid (putK l 0 = encs [(l.length : Int)]) := hid (by unfold putK; rw [List.take_zero]; rfl)
    have HS : Hid (∀ k x, l[k]? = some x → putK l (k + 1) = putK l k ++ encs [x - lastI (-1) (l.take k) - 1]) := hid (fun k x h => putK_step h)
    have HL : Hid (∀ k x, l[k]? = some x → lastI (-1) (l.take (k + 1)) = x) := hid (fun k x h => lastI_step h)
    have HI : Hid (∀ k x, l[k]? = some x → -1 ≤ lastI (-1) (l.take k) ∧ lastI (-1) (l.take k) < x ∧ 0 ≤ x ∧ x < dim) := hid (fun k x h => lastI_lt hp h)
    have HB := hid (putK_len hp)
    have HI0 : Hid (lastI (-1) (l.take 0) = -1) := hid rfl
    obtain ⟨S, hS⟩ : ∃ S : Nat → List Int, putK l = S := ⟨_, rfl⟩
    obtain ⟨T, hT⟩ : ∃ T : Nat → Int, (fun k => lastI (-1) (l.take k)) = T := ⟨_, rfl⟩
    have hT' : ∀ k, lastI (-1) (l.take k) = T k := fun k => by rw [← hT]
    simp only [hT'] at HS HL HI HI0
    rw [hS] at HS HB HS0 ⊢
    obtain ⟨N, hN⟩ : ∃ N, l.length = N := ⟨_, rfl⟩
    have HN := hid hN
    rw [hN] at C hlen HS0 ⊢
    have CP0 : Hid (∀ g W, W.cell? ⟨g, 0, none⟩ = some (.int .u64 (N : Int)) → Calls Try.prog 25 #[.slice none 0 0, .slice (some ⟨g, 0, none⟩) 1 1] W (OwnOf 5 .u8 W.heap.size (S 0) W)) := hid (fun g W h => by
      have h := ref_Put (A := none) (B := some ⟨g, 0, none⟩) (c := 0) (d := 1) [] [(N : Int)] (by decide) (by simp) (by intro x hx; simp at hx; subst hx; unfold U64; omega) W Rd.none_ (rd_one h)
      rw [List.nil_append, ← HS0.out] at h
      exact h)
    have hN4 : N ≤ 4096 := by omega
    clear h hp hlen e hS hT hT' hN ra HS0 hl
    go_enter Try.func28, Try.ntmps28
    go_wp2_with fail
    refine C.out.mono ?_
    rintro _ w0 ⟨rfl, n0, hw0⟩
    have k0 : Below w.heap.size w w0 := by rw [hw0]; exact belowN _ _ n0
    clear hw0 C
    go_wp2_with fail
    refine (CP0.out _ _ (one_cell w0 _ _).1).mono ?_
    rintro _ w1 ⟨A1, c1, rfl, ho1, hb1⟩
    have kz := (one_cell w0 (.int .u64 (N : Int)) 44).2
    have k1 : Below w.heap.size w w1 := k0.trans ((kz.trans (hb1.mono kz.size)).mono k0.size)
    have hsz : w.heap.size ≤ (w0.alloc (.cells #[.int .u64 (N : Int)] 44)).heap.size := by have := k0.size; have := kz.size; omega
    have HO1 := hid (own_base ho1 hsz)
    clear ho1 hb1 kz hsz k0
    go_wp2_with fail
    go_loopw [7, 8, 10, 24] (fun t p x0 i wr => ∃ (k : Nat) (A2 : Option Addr) (c2 : Nat), k ≤ N ∧ i = .int .i64 k ∧ p = .int .i64 (T k) ∧ t = .slice A2 (S k).length c2 ∧ wr.ownsRow w.heap.size 5 1 (.slice A2 (S k).length c2) (S k).length ((S k).map (Value.int .u8)) ∧ Below w.heap.size w wr) (fun _ _ _ i _ => N - (intOf i).toNat)
    case atStart => exact ⟨0, A1, c1, by omega, rfl, by rw [HI0.out], rfl, HO1.out, k1⟩
    case round =>
      clear HO1 k1
      obtain ⟨k, A2, c2, hk, rfl, rfl, rfl, ho, hbel⟩ := hrel
      have HO := hid ho
      clear ho
      by_cases hlt : k < N
      · obtain ⟨b1, o1, x, rfl, l1, ex, cx⟩ := (RA.out.below hbel).at_ (k := k) (by rw [HN.out]; exact hlt)
        have hi := HI.out k x ex
        have HSk := hid (HS.out k x ex)
        have HLk := hid (HL.out k x ex)
        have hSb := HB.out k
        obtain ⟨t, ht⟩ : ∃ t, T k = t := ⟨_, rfl⟩
        obtain ⟨g, hg⟩ : ∃ g, x - t - 1 = g := ⟨_, rfl⟩
        rw [ht] at hi HSk
        rw [hg] at HSk
        obtain ⟨Sk, hSk⟩ : ∃ Sk, S k = Sk := ⟨_, rfl⟩
        rw [hSk] at HO HSk hSb
        have CP : Hid (∀ W g', W.cell? ⟨g', 0, none⟩ = some (.int .u64 g) → Rd (Value.int .u8) W W.heap.size A2 Sk → Calls Try.prog 25 #[.slice A2 Sk.length c2, .slice (some ⟨g', 0, none⟩) 1 1] W (OwnOf 5 .u8 W.heap.size (S (k + 1)) W)) := hid (fun W g' h hr => by
          have h := ref_Put (A := A2) (B := some ⟨g', 0, none⟩) (c := c2) (d := 1) Sk [g] (by omega) (by simp) (by intro y hy; simp at hy; subst hy; unfold U64; omega) W hr (rd_one h)
          rw [← HSk.out] at h
          exact h)
        have HRd := hid (own_rd HO.out)
        have hg0 : 0 ≤ g ∧ g ≤ 4096 := by omega
        clear ex HO HSk
        rw [ht, hSk]
        go_wp2_with fail
        have kz := (one_cell wr (.int .u64 g) 44)
        refine (CP.out _ _ kz.1 (HRd.out.on kz.2)).mono ?_
        rintro _ w2 ⟨A3, c3, rfl, ho3, hb3⟩
        have k3 : Below w.heap.size w w2 := hbel.trans ((kz.2.trans (hb3.mono kz.2.size)).mono hbel.size)
        have hsz : w.heap.size ≤ (wr.alloc (.cells #[.int .u64 g] 44)).heap.size := by have := hbel.size; have := kz.2.size; omega
        have HO3 := hid (own_base ho3 hsz)
        clear ho3 hb3 kz hsz HRd
        go_wp2_with fail
        go_roundw
        case rel => exact ⟨k + 1, A3, c3, by omega, by go_num, by rw [HLk.out], rfl, HO3.out, k3⟩
        case measure => simp [intOf]; omega
      · obtain rfl : k = N := by omega
        go_wp2_with fail
        go_ret2
        exact ⟨A2, c2, rfl, HO.out, hbel⟩
  · have e : pixV dim l = [] := if_neg h
    rw [e]
    obtain ⟨E, hE⟩ : ∃ E, chkE dim l = E := ⟨_, rfl⟩
    rw [hE] at C h ⊢
    have hne : (E != 0) = true := by simpa using h
    clear h e hE ra
    go_enter Try.func28, Try.ntmps28
    go_wp2_with fail
    refine C.out.mono ?_
    rintro _ _ ⟨rfl, n0, rfl⟩
    go_wp2_with fail
    go_ret2
    exact .nil (belowN _ _ _)
theorem gix_cases {dim : Int} {b : List Int} {a : Int} (h1 : 1 ≤ dim) (h2 : dim ≤ 4096) : (getE b a ≠ 0 → gixR dim b a = ([], 0, getE b a)) ∧ (getE b a = 0 → dim < getN b a → gixR dim b a = ([], 0, 6)) ∧
    (getE b a = 0 → getN b a ≤ dim → withL [] (ixL dim b (getN b a).toNat (-1) (getA b a)) = gixR dim b a) := by
  unfold gixR
  rw [if_neg (by omega)]
  refine ⟨fun h => if_pos h, fun h h3 => ?_, fun h h3 => ?_⟩
  · have h' : ¬ getE b a ≠ 0 := fun hn => hn h
    rw [if_neg h', if_pos h3]
  · have h' : ¬ getE b a ≠ 0 := fun hn => hn h
    rw [if_neg h', if_neg (by omega)]
    exact withL_nil (ixL_bad dim b _ _ _)
end Go.Proofs.Ythcigkcnknibgaa
/- Lists of lists in memory, by their slices; part of them and turned round. -/
namespace Go.Proofs.Ythcigkcnknibgaa
open Go.RowKit
set_option maxRecDepth 100000
set_option linter.unusedVariables false
/-- A slice of slices at A reads as these lists. -/
def RdRows (w : World) (B : Nat) (A : Option Addr) (rows : List (List Int)) : Prop :=
  ∀ k xs, rows[k]? = some xs → ∃ b off A' c', A = some ⟨b, off, none⟩ ∧ b < B ∧ w.cell? ⟨b, off + k, none⟩ = some (.slice A' xs.length c') ∧ Rd (Value.int .i64) w B A' xs
theorem RdRows.below {w w' : World} {B : Nat} {A : Option Addr} {rows : List (List Int)} (h : RdRows w B A rows) (hb : Below B w w') : RdRows w' B A rows := fun k xs hx => by
  obtain ⟨b, off, A', c', e, hl, hc, hr⟩ := h k xs hx
  exact ⟨b, off, A', c', e, hl, (hb.cell (p := ⟨b, off + k, none⟩) hl).trans hc, hr.below hb⟩
theorem RdRows.more {w : World} {B B' : Nat} {A : Option Addr} {rows : List (List Int)} (h : RdRows w B A rows) (hB : B ≤ B') : RdRows w B' A rows := fun k xs hx => by
  obtain ⟨b, off, A', c', e, hl, hc, hr⟩ := h k xs hx
  exact ⟨b, off, A', c', e, by omega, hc, hr.more hB⟩
theorem RdRows.on {w w' : World} {A : Option Addr} {rows : List (List Int)} (h : RdRows w w.heap.size A rows) (hb : Below w.heap.size w w') : RdRows w' w'.heap.size A rows := (h.below hb).more hb.size
/-- A slice's three parts. -/
abbrev Sl := Option Addr × Nat × Nat
def encS (p : Sl) : Value := .slice p.1 p.2.1 p.2.2
theorem encS_one (p : Sl) : (encS p).oneCell' = true := rfl
/-- The slices by which lists lie in memory. -/
def Fits (w : World) (B : Nat) (ps : List Sl) (rows : List (List Int)) : Prop := ps.length = rows.length ∧ ∀ (k : Nat) (p : Sl) (xs : List Int), ps[k]? = some p → rows[k]? = some xs → p.2.1 = xs.length ∧ Rd (Value.int .i64) w B p.1 xs
theorem rows_split {w : World} {B : Nat} {A : Option Addr} : ∀ {rows : List (List Int)}, RdRows w B A rows → ∃ ps, Rd encS w B A ps ∧ Fits w B ps rows := by
  intro rows h
  have key : ∀ k, k ≤ rows.length → ∃ ps : List Sl, Rd encS w B A ps ∧ Fits w B ps (rows.take k) := by
    intro k
    induction k with
    | zero => exact fun _ => ⟨[], Rd.none_, by simp, fun k p xs hp => by simp at hp⟩
    | succ k ih =>
      intro hk
      obtain ⟨ps, h1, h2, h3⟩ := ih (by omega)
      have hu : rows[k]? = some rows[k] := List.getElem?_eq_getElem (by omega)
      obtain ⟨b, off, A', c', e, hl, hc, hr⟩ := h k _ hu
      have hlen : ps.length = k := by rw [h2, List.length_take]; omega
      refine ⟨ps ++ [(A', rows[k].length, c')], ?_, ?_, ?_⟩
      · intro j p hp
        by_cases hj : j < ps.length
        · rw [List.getElem?_append_left hj] at hp
          exact h1 j p hp
        · have hj2 : j = k := by
            have := (List.getElem?_eq_some_iff.1 hp).1
            simp at this; omega
          subst hj2
          rw [List.getElem?_append_right (by omega), hlen] at hp
          simp at hp
          subst hp
          exact ⟨b, off, e, hl, hc⟩
      · rw [List.length_append, hlen, List.length_take]; simp; omega
      · intro j p xs hp hx
        by_cases hj : j < ps.length
        · rw [List.getElem?_append_left hj] at hp
          refine h3 j p xs hp ?_
          rw [List.getElem?_take_of_lt (by omega)] at hx ⊢
          exact hx
        · have hj2 : j = k := by
            have := (List.getElem?_eq_some_iff.1 hp).1
            simp at this; omega
          subst hj2
          rw [List.getElem?_append_right (by omega), hlen] at hp
          rw [List.getElem?_take_of_lt (by omega), hu] at hx
          simp at hp hx
          subst hp
          subst hx
          exact ⟨rfl, hr⟩
  obtain ⟨ps, h1, h2⟩ := key rows.length (Nat.le_refl _)
  rw [List.take_of_length_le (Nat.le_refl _)] at h2
  exact ⟨ps, h1, h2⟩
theorem rows_join {w : World} {B : Nat} {A : Option Addr} {ps : List Sl} {rows : List (List Int)} (h : Rd encS w B A ps) (hf : Fits w B ps rows) : RdRows w B A rows := fun k xs hx => by
  have hk : k < ps.length := by rw [hf.1]; exact (List.getElem?_eq_some_iff.1 hx).1
  obtain ⟨b, off, e, hl, hc⟩ := h k ps[k] (List.getElem?_eq_getElem hk)
  obtain ⟨h1, h2⟩ := hf.2 k _ xs (List.getElem?_eq_getElem hk) hx
  refine ⟨b, off, ps[k].1, ps[k].2.2, e, hl, ?_, h2⟩
  rw [hc]
  unfold encS
  rw [h1]
theorem fits_on {w w' : World} {B : Nat} {ps : List Sl} {rows : List (List Int)} (h : Fits w B ps rows) (hb : Below B w w') : Fits w' B ps rows := ⟨h.1, fun k p xs hp hx => ⟨(h.2 k p xs hp hx).1, (h.2 k p xs hp hx).2.below hb⟩⟩
theorem fits_more {w : World} {B B' : Nat} {ps : List Sl} {rows : List (List Int)} (h : Fits w B ps rows) (hB : B ≤ B') : Fits w B' ps rows := ⟨h.1, fun k p xs hp hx => ⟨(h.2 k p xs hp hx).1, (h.2 k p xs hp hx).2.more hB⟩⟩
theorem fits_reverse {w : World} {B : Nat} {ps : List Sl} {rows : List (List Int)} (h : Fits w B ps rows) : Fits w B ps.reverse rows.reverse := by
  refine ⟨by simp [h.1], fun k p xs hp hx => ?_⟩
  have hk : k < ps.length := by have := (List.getElem?_eq_some_iff.1 hp).1; simpa using this
  rw [List.getElem?_reverse hk] at hp
  rw [List.getElem?_reverse (by rw [← h.1]; exact hk), ← h.1] at hx
  exact h.2 _ p xs hp hx
theorem rows_tail {w : World} {B b off : Nat} {v : List Int} {r : List (List Int)} (h : RdRows w B (some ⟨b, off, none⟩) (v :: r)) : RdRows w B (some ⟨b, off + 1, none⟩) r := fun k xs hx => by
  obtain ⟨b', off', A', c', e, hl, hc, hr⟩ := h (k + 1) xs (by rw [List.getElem?_cons_succ]; exact hx)
  have e2 := Option.some.inj e
  simp only [Addr.mk.injEq] at e2
  obtain ⟨rfl, rfl, _⟩ := e2
  exact ⟨b, off + 1, A', c', rfl, hl, by rw [show off + 1 + k = off + (k + 1) by omega]; exact hc, hr⟩
theorem rows_two {A B : Option Addr} {c d : Nat} (xs ys : List Int) (W : World) (ra : Rd (Value.int .i64) W W.heap.size A xs) (rb : Rd (Value.int .i64) W W.heap.size B ys) (t : TypeId) :
    RdRows (W.alloc (.cells #[.slice A xs.length c, .slice B ys.length d] t)) (W.alloc (.cells #[.slice A xs.length c, .slice B ys.length d] t)).heap.size (some ⟨W.heap.size, 0, none⟩) [xs, ys] := fun k zs hz => by
  have hb : Below W.heap.size W (W.alloc (.cells #[.slice A xs.length c, .slice B ys.length d] t)) := (Below.refl _ _).alloc (Nat.le_refl _) _
  have hn := heap_alloc_new W (.cells #[.slice A xs.length c, .slice B ys.length d] t)
  have hlt : W.heap.size < (W.alloc (.cells #[.slice A xs.length c, .slice B ys.length d] t)).heap.size := (Array.getElem?_eq_some_iff.1 hn).1
  match k, hz with
  | 0, hz =>
    obtain rfl : xs = zs := by simpa using hz
    exact ⟨_, 0, A, c, rfl, hlt, by rw [cell_of_row _ _ _ _ t (0, 0) hn]; rfl, ra.on hb⟩
  | 1, hz =>
    obtain rfl : ys = zs := by simpa using hz
    exact ⟨_, 0, B, d, rfl, hlt, by rw [cell_of_row _ _ _ _ t (0, 0) hn]; rfl, rb.on hb⟩
  | k + 2, hz => simp at hz
theorem rows_one {A : Option Addr} {c : Nat} (xs : List Int) (W : World) (ra : Rd (Value.int .i64) W W.heap.size A xs) (t : TypeId) :
    RdRows (W.alloc (.cells #[.slice A xs.length c] t)) (W.alloc (.cells #[.slice A xs.length c] t)).heap.size (some ⟨W.heap.size, 0, none⟩) [xs] := fun k zs hz => by
  have hb : Below W.heap.size W (W.alloc (.cells #[.slice A xs.length c] t)) := (Below.refl _ _).alloc (Nat.le_refl _) _
  have hn := heap_alloc_new W (.cells #[.slice A xs.length c] t)
  have hlt : W.heap.size < (W.alloc (.cells #[.slice A xs.length c] t)).heap.size := (Array.getElem?_eq_some_iff.1 hn).1
  match k, hz with
  | 0, hz =>
    obtain rfl : xs = zs := by simpa using hz
    exact ⟨_, 0, A, c, rfl, hlt, by rw [cell_of_row _ _ _ _ t (0, 0) hn]; rfl, ra.on hb⟩
  | k + 1, hz => simp at hz
end Go.Proofs.Ythcigkcnknibgaa
/- Numbers spread and gathered, other places, lists together, by the document. -/
namespace Go.Proofs.Ythcigkcnknibgaa
open Go.RowKit
set_option maxHeartbeats 400000
set_option maxRecDepth 100000
set_option linter.unusedVariables false
theorem sp_map {k : Nat} {l v : List Int} : (upI k).map (spF l v) = (List.range k).map fun j : Nat => spF l v (j : Int) := by
  unfold upI
  rw [List.map_map]
  rfl
/-- The numbers ahead of some place of lists. -/
def upto (ls : List (List Int)) (i j : Nat) : List Int := (ls.take i).flatten ++ (ls.getD i []).take j
theorem upto_next {ls : List (List Int)} {i : Nat} {x : List Int} (h : ls[i]? = some x) : upto ls i x.length = upto ls (i + 1) 0 := by
  unfold upto
  rw [List.take_add_one, h, List.getD_eq_getElem?_getD, h, Option.getD_some, List.take_length, List.flatten_append, List.take_zero, List.append_nil]
  simp
theorem upto_step {ls : List (List Int)} {i j : Nat} {x : List Int} {n : Int} (h : ls[i]? = some x) (hj : x[j]? = some n) : upto ls i (j + 1) = upto ls i j ++ [n] := by
  unfold upto
  rw [List.getD_eq_getElem?_getD, h, Option.getD_some, take_snoc hj, List.append_assoc]
theorem upto_end (ls : List (List Int)) {i : Nat} (h : ls.length ≤ i) : upto ls i 0 = ls.flatten := by
  unfold upto
  rw [List.take_of_length_le h, List.take_zero, List.append_nil]
theorem upto_len {ls : List (List Int)} {i j : Nat} : (upto ls i j).length ≤ ls.flatten.length := by
  unfold upto
  conv => rhs; rw [← List.take_append_drop i ls, List.flatten_append]
  rw [List.length_append, List.length_append]
  have : ((ls.getD i []).take j).length ≤ (ls.drop i).flatten.length := by
    by_cases hi : i < ls.length
    · rw [List.drop_eq_getElem_cons hi, List.flatten_cons, List.length_append, List.getD_eq_getElem?_getD, List.getElem?_eq_getElem hi, Option.getD_some, List.length_take]
      omega
    · rw [List.getD_eq_getElem?_getD, List.getElem?_eq_none (by omega)]
      simp
  omega
theorem ins_len (out : List Int) (n : Int) : (insI out n).length ≤ out.length + 1 := by
  unfold insI
  split
  · omega
  · rw [List.length_append, List.length_append]
    have h : (out.filter fun m => decide (m < n)).length + (out.filter fun m => decide (n < m)).length ≤ out.length := by
      have h1 := filter_both (fun m => decide (m < n)) out
      have h2 : (out.filter fun m => decide (n < m)).length ≤ (out.filter fun x => !decide (x < n)).length := by
        rw [← List.countP_eq_length_filter, ← List.countP_eq_length_filter]
        exact List.countP_mono_left fun x _ hx => by simp at hx ⊢; omega
      omega
    simp
    omega
theorem mrgF_len : ∀ (l out : List Int), (mrgF out l).length ≤ out.length + l.length
  | [], out => by simp [mrgF]
  | n :: l, out => by
    have h1 := mrgF_len l (insI out n)
    have h2 := ins_len out n
    show (mrgF (insI out n) l).length ≤ _
    rw [List.length_cons]
    omega
theorem filter_snoc {l : List Int} {k : Nat} {x : Int} (h : l[k]? = some x) (p : Int → Bool) : (l.take (k + 1)).filter p = (l.take k).filter p ++ if p x = true then [x] else [] := by
  rw [take_snoc h, List.filter_append]
  congr 1
  cases hp : p x <;> simp [hp]
end Go.Proofs.Ythcigkcnknibgaa
/- What is told the same; lists just laid. -/
namespace Go.Proofs.Ythcigkcnknibgaa
open Go.RowKit
set_option maxHeartbeats 400000
set_option maxRecDepth 100000
set_option linter.unusedVariables false
/-- Places told, where they end, an error, named one by one. -/
def OwnX (xs : List Int) (a er : Int) (w : World) (e : Ending) (w' : World) : Prop :=
  ∃ A c, e = .returned (.tuple #[.slice A xs.length c, .int .i64 a, .int .i64 er]) ∧ w'.ownsRow w.heap.size 3 1 (.slice A xs.length c) xs.length (xs.map (Value.int .i64)) ∧ Below w.heap.size w w'
theorem put_live : pixV 9 [1, 2, 5] = [3, 1, 0, 2] ∧ chkE 9 [1, 2, 5] = 0 := by
  have h : chkE 9 [1, 2, 5] = 0 := by decide
  refine ⟨?_, h⟩
  unfold pixV
  rw [if_pos h]
  show encs [3, 1, 0, 2] = _
  simp [encs, lebI_last]
theorem get_live : gixR 9 [3, 1, 0, 2] 0 = ([1, 2, 5], 4, 0) := by decide
theorem rd_three (w : World) (t : TypeId) (a b c : Int) : Rd (Value.int .i64) (w.alloc (.cells #[.int .i64 a, .int .i64 b, .int .i64 c] t)) (w.alloc (.cells #[.int .i64 a, .int .i64 b, .int .i64 c] t)).heap.size (some ⟨w.heap.size, 0, none⟩) [a, b, c] := rd_new w t [a, b, c]
theorem rd_four8 (w : World) (t : TypeId) (a b c d : Int) : Rd (Value.int .u8) (w.alloc (.cells #[.int .u8 a, .int .u8 b, .int .u8 c, .int .u8 d] t)) (w.alloc (.cells #[.int .u8 a, .int .u8 b, .int .u8 c, .int .u8 d] t)).heap.size (some ⟨w.heap.size, 0, none⟩) [a, b, c, d] := rd_new w t [a, b, c, d]
/-- Equal lists are found so. -/
theorem equal_yes {X : List Int} (hx : X.length ≤ 9223372036854775807) {A B : Option Addr} {c d : Nat} (W : World) {L M : Nat} (h1 : Rd (Value.int .i64) W L A X) (h2 : Rd (Value.int .i64) W M B X) :
    Calls Try.prog 61 #[.slice A X.length c, .slice B X.length d] W fun e w' => e = .returned (.bool true) ∧ Below W.heap.size W w' := by
  have h := ref_Equal (A := A) (B := B) (c := c) (d := d) X X hx hx W h1 h2
  rw [eqB_self] at h
  exact h.mono fun _ _ ⟨h1, n, h2⟩ => ⟨h1, by rw [h2]; exact belowN _ _ _⟩
theorem ref_CheckB {A : Option Addr} {c : Nat} (dim : Int) (l : List Int) (hd : I64 dim) (hl : l.length ≤ 100000) (w : World) (ra : Rd (Value.int .i64) w w.heap.size A l) :
    Calls Try.prog 34 #[.int .i64 dim, .slice A l.length c] w fun e w' => e = .returned (.int .i64 (chkE dim l)) ∧ Below w.heap.size w w' :=
  (ref_Check dim l hd (by omega) w ra).mono fun _ _ ⟨h, n, e⟩ => ⟨h, by rw [e]; exact belowN _ _ _⟩
theorem grow (w : World) (o : Obj) : Below w.heap.size w (w.alloc o) := (Below.refl _ _).alloc (Nat.le_refl _) _
theorem ref_Same64 {A B : Option Addr} {c d : Nat} (xs ys : List Int) (hx : xs.length ≤ 9223372036854775807) (hy : ys.length ≤ 9223372036854775807) (w : World) {L M : Nat}
    (ra : Rd (Value.int .i64) w L A xs) (rb : Rd (Value.int .i64) w M B ys) :
    Calls Try.prog 62 #[.slice A xs.length c, .slice B ys.length d] w fun e w' => e = .returned (.bool (eqB xs ys)) ∧ ∃ n, w' = w.drewN n := by
  by_cases hl : xs.length = ys.length
  · have HA := hid ra
    have HB := hid rb
    clear ra rb
    have h1 : ((xs.length : Int) != (ys.length : Int)) = false := by simp; omega
    have h2 : (xs.length != ys.length) = false := by simp; omega
    have HL := hid hl
    clear hl
    go_enter Try.func62, Try.ntmps62
    go_wp2_with fail
    clear h1 h2
    go_loopw [13] (fun i wr => ∃ k : Nat, k ≤ xs.length ∧ i = .int .i64 k ∧ xs.take k = ys.take k ∧ ∃ n, wr = w.drewN n) (fun i _ => xs.length - (intOf i).toNat)
    case atStart => exact ⟨0, by omega, rfl, rfl, 0, rfl⟩
    case round =>
      obtain ⟨k, hk, rfl, ht, n, rfl⟩ := hrel
      have HT := hid ht
      clear ht
      by_cases hlt : k < xs.length
      · have hlt2 : k < ys.length := by have := HL.out; omega
        obtain ⟨b1, o1, x, rfl, l1, ex, c1⟩ := HA.out.at_ hlt
        obtain ⟨b2, o2, y, rfl, l2, ey, c2⟩ := HB.out.at_ hlt2
        have EX := hid ex
        have EY := hid ey
        clear ex ey
        by_cases e : x = y
        · have e' : (x != y) = false := by simpa using e
          have E := hid e
          clear e
          go_wp2_with fail
          go_quiet (fail)
          go_wp2_with fail
          go_roundw
          case rel => exact ⟨k + 1, by omega, by go_num, take_step HT.out EX.out EY.out E.out, _, rfl⟩
          case measure => simp [intOf]; omega
        · have e' : (x != y) = true := by simpa using e
          go_wp2_with fail
          go_quiet (fail)
          go_wp2_with fail
          go_ret
          rw [eqB_no EX.out EY.out e]
          exact ⟨rfl, drewN_two _ _ _⟩
      · have hke : k = xs.length := by omega
        have HK := hid hke
        clear hke
        go_wp2_with fail
        go_ret
        rw [eqB_yes HT.out HK.out HL.out]
        exact ⟨rfl, _, rfl⟩
  · rw [eqB_len hl]
    have h1 : ((xs.length : Int) != (ys.length : Int)) = true := by simp; omega
    have h2 : (xs.length != ys.length) = true := by simp; omega
    go_enter Try.func62, Try.ntmps62
    go_wp2_with fail
    go_ret
    exact ⟨rfl, 0, rfl⟩
theorem same64_yes {X : List Int} (hx : X.length ≤ 9223372036854775807) {A B : Option Addr} {c d : Nat} (W : World) (h1 : Rd (Value.int .i64) W W.heap.size A X) (h2 : Rd (Value.int .i64) W W.heap.size B X) :
    Calls Try.prog 62 #[.slice A X.length c, .slice B X.length d] W fun e w' => e = .returned (.bool true) ∧ Below W.heap.size W w' := by
  have h := ref_Same64 (A := A) (B := B) (c := c) (d := d) X X hx hx W h1 h2
  rw [eqB_self] at h
  exact h.mono fun _ _ ⟨h1, n, h2⟩ => ⟨h1, by rw [h2]; exact belowN _ _ _⟩
end Go.Proofs.Ythcigkcnknibgaa
/- Widths, bytes, whether numbers may be packed; bits put into bytes, by the document. -/
namespace Go.Proofs.Ythcigkcnknibgaa
open Go.RowKit
set_option maxHeartbeats 400000
set_option maxRecDepth 100000
set_option linter.unusedVariables false
theorem info_bool : (Try.prog.info? 4).map (fun i => (i.zero, i.size, i.bytes)) = some (some (.bool false), 1, 1) := by kernel_rfl
theorem wdt_zero : wdt 0 = 0 := by decide
theorem wdt_half {n : Int} (h0 : 0 < n) (h : n ≤ 18446744073709551615) : wdt n = 1 + wdt (n / 2) := by
  unfold wdt
  rw [Lib.bitLen_half n.toNat (by omega) (by omega)]
  congr 2
  omega
theorem wdt_64 {n : Int} (hn : U64 n) : wdt n ≤ 64 := by
  rw [wdt_le hn (by omega)]
  unfold U64 at hn
  have : (2 : Int) ^ 64 = 18446744073709551616 := by decide
  omega
theorem ref_Width (n : Int) (hn : U64 n) (w : World) :
    Calls Try.prog 35 #[.int .u64 n] w fun e w' => e = .returned (.int .i64 (wdt n : Int)) ∧ w = w' := by
  have hle := wdt_64 hn
  obtain ⟨R, hR⟩ : ∃ R, wdt n = R := ⟨_, rfl⟩
  rw [hR] at hle ⊢
  have HR := hid hR
  unfold U64 at hn
  clear hR
  go_enter Try.func35, Try.ntmps35
  go_wp2_with fail
  go_loop [0, 3] (fun m s => ∃ (x : Int) (k : Nat), 0 ≤ x ∧ x ≤ 18446744073709551615 ∧ m = .int .u64 x ∧ s = .int .i64 k ∧ k + wdt x = R) (fun m _ => (intOf m).toNat)
  case atStart => exact ⟨n, 0, hn.1, hn.2, rfl, rfl, by rw [HR.out]; omega⟩
  case round =>
    obtain ⟨x, k, h0, h1, rfl, rfl, hs⟩ := hrel
    have hk : k ≤ 64 := by omega
    have HS := hid hs
    clear hs
    by_cases hlt : 0 < x
    · have HN : Hid (k + 1 + wdt (x / 2) = R) := hid (by have h := HS.out; rw [wdt_half hlt h1] at h; omega)
      go_wp2_with fail
      go_round
      case rel => exact ⟨x / 2, k + 1, by omega, by omega, rfl, by go_num, HN.out⟩
      case measure => simp [intOf]; omega
    · obtain rfl : x = 0 := by omega
      have HN : Hid (k = R) := hid (by have h := HS.out; rw [wdt_zero] at h; omega)
      go_wp2_with fail
      go_ret
      rw [HN.out]
      exact ⟨rfl, rfl⟩
theorem ref_Bytes (wd many : Int) (hw : I64 wd) (hm : I64 many) (w : World) :
    Calls Try.prog 75 #[.int .i64 wd, .int .i64 many] w fun e w' => e = .returned (.tuple #[.int .i64 (bysV wd many), .int .i64 (bysE wd many)]) ∧ w = w' := by
  unfold I64 at hw hm
  unfold bysV bysE
  by_cases h1 : wd < 0 ∨ 32 < wd ∨ many < 0
  · rw [if_pos h1, if_neg (by decide)]
    by_cases a : wd < 0
    · clear h1
      go_enter Try.func75, Try.ntmps75
      go_wp2_with fail
      go_ret2
      exact ⟨rfl, rfl⟩
    · by_cases b : 32 < wd
      · clear h1
        go_enter Try.func75, Try.ntmps75
        go_wp2_with fail
        go_ret2
        exact ⟨rfl, rfl⟩
      · have c : many < 0 := by omega
        clear h1
        go_enter Try.func75, Try.ntmps75
        go_wp2_with fail
        go_ret2
        exact ⟨rfl, rfl⟩
  · rw [if_neg h1]
    have a : 0 ≤ wd := by omega
    have b : wd ≤ 32 := by omega
    have c : 0 ≤ many := by omega
    by_cases h2 : 4096 < many
    · rw [if_pos h2, if_neg (by decide)]
      clear h1
      go_enter Try.func75, Try.ntmps75
      go_wp2_with fail
      go_ret2
      exact ⟨rfl, rfl⟩
    · rw [if_neg h2, if_pos rfl]
      have hp : 0 ≤ wd * many ∧ wd * many ≤ 131072 := by
        have h3 := Int.mul_nonneg a c
        have h4 := Int.mul_le_mul b (show many ≤ 4096 by omega) c (by decide)
        omega
      obtain ⟨q, hq⟩ : ∃ q, wd * many = q := ⟨_, rfl⟩
      rw [hq] at hp ⊢
      clear h1
      go_enter Try.func75, Try.ntmps75
      go_wp2_with fail
      go_ret2
      exact ⟨rfl, rfl⟩
theorem fits_take {wd : Int} {l : List Int} : fitsB wd l = true → ∀ k, fitsB wd (l.take k) = true := fun h k => by
  unfold fitsB at *
  rw [List.all_eq_true] at *
  exact fun n hn => h n (List.mem_of_mem_take hn)
theorem fits_no {wd : Int} {l : List Int} {k : Nat} {x : Int} (hx : l[k]? = some x) (h : wd < (wdt x : Int)) : fitsB wd l = false := by
  cases hb : fitsB wd l with
  | false => rfl
  | true =>
    unfold fitsB at hb
    rw [List.all_eq_true] at hb
    have := of_decide_eq_true (hb x (List.mem_of_getElem? hx))
    omega
theorem fits_step {wd : Int} {l : List Int} {k : Nat} {x : Int} (hx : l[k]? = some x) (h : (wdt x : Int) ≤ wd) (ht : fitsB wd (l.take k) = true) : fitsB wd (l.take (k + 1)) = true := by
  unfold fitsB at *
  rw [List.take_add_one, hx, List.all_append, ht]
  simpa using h
theorem ref_may {A : Option Addr} {c : Nat} (wd : Int) (l : List Int) (hw : I64 wd) (hl : l.length ≤ 9223372036854775807) (ul : U64s l) (w : World) {B : Nat} (ra : Rd (Value.int .u64) w B A l) :
    Calls Try.prog 55 #[.int .i64 wd, .slice A l.length c] w fun e w' => e = .returned (.int .i64 (mayE wd l)) ∧ w = w' := by
  have CB := hid (ref_Bytes wd l.length hw (by unfold I64; omega))
  by_cases h : bysE wd l.length = 0
  · have hwd := (bys_ok h).1
    have hM : mayE wd l = if fitsB wd l = true then 0 else 1 := if_pos h
    rw [h] at CB
    obtain ⟨V, hV⟩ : ∃ V, bysV wd l.length = V := ⟨_, rfl⟩
    rw [hV] at CB
    have HM := hid hM
    have RA := hid ra
    have UL := hid ul
    obtain ⟨E, hE⟩ : ∃ E, mayE wd l = E := ⟨_, rfl⟩
    rw [hE] at HM ⊢
    clear h hM hV ra ul hE
    go_enter Try.func55, Try.ntmps55
    go_wp2_with fail
    refine (CB.out _).mono ?_
    rintro _ _ ⟨rfl, rfl⟩
    go_wp2_with fail
    go_loop [8, 21] (fun m i => ∃ (k : Nat), k ≤ l.length ∧ i = .int .i64 k ∧ fitsB wd (l.take k) = true) (fun _ i => l.length - (intOf i).toNat)
    case atStart => exact ⟨0, by omega, rfl, by rw [List.take_zero]; rfl⟩
    case round =>
      obtain ⟨k, hk, rfl, hs⟩ := hrel
      have HS := hid hs
      clear hs
      by_cases hlt : k < l.length
      · obtain ⟨b1, o1, x, rfl, l1, ex, c1⟩ := RA.out.at_ hlt
        have CW := hid (ref_Width x (UL.out.at_ ex))
        have hle := wdt_64 (UL.out.at_ ex)
        have HF : Hid ((wd < (wdt x : Int) → fitsB wd l = false) ∧ ((wdt x : Int) ≤ wd → fitsB wd (l.take (k + 1)) = true)) := hid ⟨fits_no ex, fun h => fits_step ex h HS.out⟩
        obtain ⟨z, hz⟩ : ∃ z, wdt x = z := ⟨_, rfl⟩
        rw [hz] at CW HF hle
        clear ex hz
        by_cases hgt : wd < (z : Int)
        · go_wp2_with fail
          refine (CW.out _).mono ?_
          rintro _ _ ⟨rfl, rfl⟩
          go_wp2_with fail
          go_ret
          rw [HM.out, HF.out.1 hgt]
          exact ⟨rfl, rfl⟩
        · have hle2 : (z : Int) ≤ wd := by omega
          go_wp2_with fail
          refine (CW.out _).mono ?_
          rintro _ _ ⟨rfl, rfl⟩
          go_wp2_with fail
          go_round
          case rel => exact ⟨k + 1, by omega, by go_num, HF.out.2 hle2⟩
          case measure => simp [intOf]; omega
      · have HL : Hid (fitsB wd l = true) := hid (by have h := HS.out; rw [List.take_of_length_le (by omega)] at h; exact h)
        obtain rfl : k = l.length := by omega
        go_wp2_with fail
        go_ret
        rw [HM.out, if_pos HL.out]
        exact ⟨rfl, rfl⟩
  · have hM : mayE wd l = bysE wd l.length := if_neg h
    rw [hM]
    obtain ⟨E, hE⟩ : ∃ E, bysE wd l.length = E := ⟨_, rfl⟩
    obtain ⟨V, hV⟩ : ∃ V, bysV wd l.length = V := ⟨_, rfl⟩
    rw [hE] at CB h ⊢
    rw [hV] at CB
    have hne : (E != 0) = true := by simpa using h
    clear h hM hE hV ra ul
    go_enter Try.func55, Try.ntmps55
    go_wp2_with fail
    refine (CB.out _).mono ?_
    rintro _ _ ⟨rfl, rfl⟩
    go_wp2_with fail
    go_ret
    exact ⟨rfl, rfl⟩
end Go.Proofs.Ythcigkcnknibgaa
/- Bits put into bytes; numbers packed, woven, signs, by the document. -/
namespace Go.Proofs.Ythcigkcnknibgaa
open Go.RowKit
set_option maxHeartbeats 400000
set_option maxRecDepth 100000
set_option linter.unusedVariables false
theorem byF_zero (f : Nat → Bool) (i : Nat) : byF 0 f i = 0 := by
  unfold byF
  simp [bv_not]
theorem ref_pack {A : Option Addr} {c : Nat} (bs : List Bool) (hl : bs.length ≤ 1000000) (w : World) (ra : Rd Value.bool w w.heap.size A bs) :
    Calls Try.prog 56 #[.slice A bs.length c] w (OwnOf 5 .u8 w.heap.size (pkL bs.length fun p => bs.getD p false) w) := by
  obtain ⟨f, hf⟩ : ∃ f : Nat → Bool, (fun p => bs.getD p false) = f := ⟨_, rfl⟩
  have HF : Hid (∀ k x, bs[k]? = some x → f k = x) := hid (fun k x h => by rw [← hf]; simp [List.getD, h])
  rw [hf]
  obtain ⟨m, hm⟩ : ∃ m, (bs.length + 7) / 8 = m := ⟨_, rfl⟩
  have hme : ((bs.length : Int) + 7) / 8 = (m : Int) := by omega
  have hm2 : m ≤ 200000 := by omega
  have hmk := fun W => run_make_row' (P := Try.prog) 32 5 (.int .u8 0) 1 Try.underlying32 info_u8 rfl .i64 .i64 m (by omega) (by omega) W
  have HM := hid hm
  have RA := hid ra
  clear hf ra hm
  go_enter Try.func56, Try.ntmps56
  go_wp2_with fail
  go_loopw [4, 5, 13] (fun i0 b0 i wr => ∃ k : Nat, k ≤ bs.length ∧ i = .int .i64 k ∧ wr.rowIs w.heap.size 5 m (fun j => .int .u8 (byF k f j)) ∧ Below w.heap.size w wr) (fun _ _ i _ => bs.length - (intOf i).toNat)
  case atStart => exact ⟨0, by omega, rfl, by simpa [byF_zero] using World.rowIs_made w (.int .u8 0) m _, by go_grown⟩
  case round =>
    obtain ⟨k, hk, rfl, hrow, hbel⟩ := hrel
    have hz := hrow.lt
    clear hmk
    by_cases hlt : k < bs.length
    · obtain ⟨b1, o1, x, rfl, l1, ex, c1⟩ := (RA.out.below hbel).at_ hlt
      have hfx := HF.out k x ex
      have hkm : k / 8 < m := by have := HM.out; omega
      have f1 := hrow.frozen (k / 8)
      have c2 := hrow.cell hkm
      have HR := hid hrow
      cases x with
      | false =>
        have HE : Hid (∀ j, byF (k + 1) f j = byF k f j) := hid (fun j => byF_off hfx)
        clear ex hfx hrow
        go_wp2_with fail
        go_roundw
        case rel => exact ⟨k + 1, by omega, by go_num, HR.out.congr fun j _ => by rw [HE.out], hbel⟩
        case measure => simp [intOf]; omega
      | true =>
        have HE : Hid (∀ j, j ≠ k / 8 → byF (k + 1) f j = byF k f j) := hid (fun j hj => byF_other hj)
        have e1 := byF_on hfx
        have hb := byF_lt (k + 1) f (k / 8)
        obtain ⟨y, hy⟩ : ∃ y, byF k f (k / 8) = y := ⟨_, rfl⟩
        obtain ⟨z, hz'⟩ : ∃ z, byF (k + 1) f (k / 8) = z := ⟨_, rfl⟩
        rw [hz'] at e1 hb
        rw [hy] at e1 c2
        have HZ := hid hz'
        clear ex hfx hrow hy hz'
        go_wp2_with fail
        go_region
        go_wp2_with fail
        go_roundw
        case rel =>
          refine ⟨k + 1, by omega, by go_num, ?_, (hbel.setCell (Nat.le_refl _) _).drew⟩
          rw [← e1]
          refine World.rowIs.congr (f := fun j => if j = k / 8 then .int .u8 z else .int .u8 (byF k f j)) (HR.out.set (k / 8) (.int .u8 z)) fun j hj => ?_
          by_cases e : j = k / 8
          · rw [if_pos e, e, HZ.out]
          · rw [if_neg e, HE.out j e]
        case measure => simp [intOf]; omega
    · obtain rfl : k = bs.length := by omega
      clear hz
      have HR := hid hrow
      clear hrow
      go_wp2_with fail
      go_ret
      have h := own_made (w' := wr) HR.out (Nat.le_refl w.heap.size) (by unfold maxLen; omega)
      refine ⟨some ⟨w.heap.size, 0, none⟩, m, ?_, ?_, hbel⟩
      · rw [pkL_len, HM.out]; rfl
      · rw [pkL_len, HM.out]
        unfold pkL
        rw [HM.out, List.map_map]
        exact h
theorem ref_Signs {A : Option Addr} {c : Nat} (bs : List Bool) (hl : bs.length ≤ 1000000) (w : World) (ra : Rd Value.bool w w.heap.size A bs) :
    Calls Try.prog 30 #[.slice A bs.length c] w (OwnE 5 .u8 w.heap.size (sgnV bs) (sgnE bs) w) := by
  unfold sgnV sgnE
  by_cases h : 4096 < bs.length
  · rw [if_pos h, if_pos h]
    clear ra
    go_enter Try.func30, Try.ntmps30
    go_wp2_with fail
    go_ret2
    exact .nil (Below.refl _ _)
  · rw [if_neg h, if_neg h]
    have CP := hid (ref_pack (A := A) (c := c) bs hl w ra)
    obtain ⟨X, hX⟩ : ∃ X, (pkL bs.length fun p => bs.getD p false) = X := ⟨_, rfl⟩
    rw [hX] at CP ⊢
    clear hX ra
    go_enter Try.func30, Try.ntmps30
    go_wp2_with fail
    refine CP.out.mono ?_
    rintro _ w1 ⟨A1, c1, rfl, ho, hb⟩
    have HO := hid ho
    clear ho
    go_wp2_with fail
    go_ret2
    exact ⟨A1, c1, rfl, HO.out, hb⟩
theorem beq_bt {x : Int} (h0 : 0 ≤ x) (q : Nat) : ((x / 2 ^ q).tmod 2 == 1) = bt x q := by
  rw [Int.tmod_eq_emod_of_nonneg (Int.ediv_nonneg h0 (Int.pow_nonneg (by decide)))]
  unfold bt
  by_cases h : x / 2 ^ q % 2 = 1 <;> simp [h]
end Go.Proofs.Ythcigkcnknibgaa
/- Numbers woven, by the document. -/
namespace Go.Proofs.Ythcigkcnknibgaa
open Go.RowKit
set_option maxHeartbeats 400000
set_option maxRecDepth 100000
set_option linter.unusedVariables false
theorem ref_Weave {A : Option Addr} {c : Nat} (wd : Int) (l : List Int) (hw : I64 wd) (hl : l.length ≤ 100000) (ul : U64s l) (w : World) (ra : Rd (Value.int .u64) w w.heap.size A l) :
    Calls Try.prog 29 #[.int .i64 wd, .slice A l.length c] w (OwnE 5 .u8 w.heap.size (wevV wd l) (mayE wd l) w) := by
  have CM := hid (ref_may (A := A) (c := c) wd l hw (by omega) ul w ra)
  by_cases h : mayE wd l = 0
  · obtain ⟨k, rfl, hk, hb, _⟩ := may_nat h ul
    have hlen := (bys_ok hb).2.2
    unfold wevV
    rw [if_pos h, Int.toNat_natCast]
    rw [h] at CM ⊢
    obtain ⟨f, hf⟩ : ∃ f, plF k l = f := ⟨_, rfl⟩
    have HF : Hid (∀ i x q j, l[i]? = some x → q + j + 1 = k → ((x / 2 ^ q).tmod 2 == 1) = f (j * l.length + i)) := hid (fun i x q j hx hq => by
      rw [← hf, pl_at (List.getElem?_eq_some_iff.1 hx).1, getD_of hx, beq_bt (ul.at_ hx).1, show k - 1 - j = q by omega])
    rw [hf]
    obtain ⟨n, hn⟩ : ∃ n, l.length = n := ⟨_, rfl⟩
    have RA := hid ra
    have HN := hid hn
    have hnk : k * n ≤ 131072 := by
      have := Nat.mul_le_mul hk (show n ≤ 4096 by omega)
      omega
    have CP := hid (fun A2 c2 W h => ref_pack (A := A2) (c := c2) (mkB (k * l.length) f) (by rw [mkB_len, hn]; omega) W h)
    have e : pkL (mkB (k * l.length) f).length (fun p => (mkB (k * l.length) f).getD p false) = pkL (k * l.length) f := by
      rw [mkB_len]
      exact pkL_congr fun p hp => by rw [List.getD_eq_getElem?_getD, mkB_at _ hp, Option.getD_some]
    rw [e] at CP
    obtain ⟨X, hX⟩ : ∃ X, pkL (k * l.length) f = X := ⟨_, rfl⟩
    rw [hX] at CP ⊢
    rw [hn] at CP HF
    have hl4 : n ≤ 4096 := by omega
    rw [hn] at CM ⊢
    clear h hf ra hn ul hb hlen hl hX e hw
    go_enter Try.func29, Try.ntmps29
    go_wp2_with fail
    refine CM.out.mono ?_
    rintro _ _ ⟨rfl, rfl⟩
    go_wp2_with fail
    go_loopw [7, 8, 10] (fun t s x0 wr => ∃ (j : Nat) (u : Int) (S : List Bool) (A2 : Option Addr) (c2 : Nat), -1 ≤ u ∧ s = .int .i64 u ∧ u + j + 1 = k ∧ t = .slice A2 S.length c2 ∧ S = mkB (j * n) f ∧ wr.ownsRow w.heap.size 4 1 (.slice A2 S.length c2) S.length (S.map Value.bool) ∧ Below w.heap.size w wr) (fun _ s _ _ => (intOf s + 1).toNat)
    case atStart => exact ⟨0, (k : Int) - 1, [], none, 0, by omega, rfl, by omega, rfl, by rw [Nat.zero_mul]; rfl, own_nil _ _ _, Below.refl _ _⟩
    case round =>
      obtain ⟨j, u, S, A2, c2, hu, rfl, huj, rfl, hS, ho, hbel⟩ := hrel
      have HS := hid hS
      have HO := hid ho
      clear hS ho
      by_cases hu0 : 0 ≤ u
      · obtain ⟨q, rfl⟩ := Int.eq_ofNat_of_zero_le hu0
        have hq64 : q ≤ 32 := by omega
        have HX := hid (fun i x hx => HF.out i x q j hx (by omega))
        go_wp2_with fail
        go_loopw [7, 10, 25] (fun t x0 i wr => ∃ (m : Nat) (S : List Bool) (A2 : Option Addr) (c2 : Nat), m ≤ n ∧ i = .int .i64 m ∧ t = .slice A2 S.length c2 ∧ S = mkB (j * n + m) f ∧ wr.ownsRow w.heap.size 4 1 (.slice A2 S.length c2) S.length (S.map Value.bool) ∧ Below w.heap.size w wr) (fun _ _ i _ => n - (intOf i).toNat)
        case atStart => exact ⟨0, S, A2, c2, by omega, rfl, rfl, HS.out, HO.out, hbel⟩
        case round =>
          obtain ⟨m, S, A2, c2, hm, rfl, rfl, hS, ho, hbel⟩ := hrel
          clear HS HO
          have hSl : S.length ≤ 131072 := by
            have h2 : (j + 1) * n ≤ k * n := Nat.mul_le_mul_right n (by omega)
            rw [Nat.add_mul, Nat.one_mul] at h2
            rw [hS, mkB_len]; omega
          have HS := hid hS
          have HO := hid ho
          clear hS ho
          by_cases hlt : m < n
          · obtain ⟨b1, o1, x, rfl, l1, ex, c1⟩ := (RA.out.below hbel).at_ (k := m) (by rw [HN.out]; exact hlt)
            have e1 := HX.out m x ex
            obtain ⟨v, hv⟩ : ∃ v, f (j * n + m) = v := ⟨_, rfl⟩
            rw [hv] at e1
            have HV := hid hv
            have hr0 : Rd Value.bool (wr.alloc (.cells #[.bool v] 4)) _ (some ⟨wr.heap.size, 0, none⟩) [v] := rd_one (one_cell wr (.bool v) 4).1
            have h0' := own_on HO.out ((Below.refl wr.heap.size wr).alloc (Nat.le_refl _) (.cells #[.bool v] 4))
            clear hv ex
            go_wp2_with (at_builtin; refine wpList_app Value.bool (fun _ => rfl) _ rfl _ _ 25 rfl w.heap.size 4 (.bool false) 1 Try.underlying25 info_bool rfl S _ _ rfl h0' [v] _ 1 _ rfl hr0 (by simp [maxLen]; omega) (by simp; omega) (by have := hbel.size; simp; omega) ?_)
            rintro S' A' c' w4 hS' ho hb4 _
            have HS' := hid hS'
            have HO' := hid ho
            clear hS' ho h0' hr0
            go_wp2_with fail
            go_roundw
            case rel => exact ⟨m + 1, S', A', c', by omega, by go_num, rfl, by rw [HS'.out, HS.out, ← HV.out, ← Nat.add_assoc, mkB_succ], HO'.out, (hbel.alloc hbel.size _).trans hb4⟩
            case measure => simp [intOf]; omega
          · obtain rfl : m = n := by omega
            have HS2 : Hid (S = mkB ((j + 1) * m) f) := hid (by rw [Nat.add_mul, Nat.one_mul]; exact HS.out)
            go_wp2_with fail
            go_roundw
            case rel => exact ⟨j + 1, (q : Int) - 1, S, A2, c2, by omega, by go_num, by omega, rfl, HS2.out, HO.out, hbel⟩
            case measure => first | (simp [intOf]; done) | (simp [intOf]; omega)
      · obtain rfl : u = -1 := by omega
        obtain rfl : j = k := by omega
        have hr := own_rd HO.out
        have hS := HS.out
        have CQ := CP.out A2 c2 wr (by rw [← hS]; exact hr)
        rw [← hS] at CQ
        have CQ := hid CQ
        clear hr hS
        go_wp2_with fail
        refine CQ.out.mono ?_
        rintro _ w5 ⟨A5, c5, rfl, ho5, hb5⟩
        have HO5 := hid (own_base ho5 hbel.size)
        clear ho5
        go_wp2_with fail
        go_ret2
        exact ⟨A5, c5, rfl, HO5.out, hbel.trans (hb5.mono hbel.size)⟩
  · have e : wevV wd l = [] := if_neg h
    rw [e]
    obtain ⟨E, hE⟩ : ∃ E, mayE wd l = E := ⟨_, rfl⟩
    rw [hE] at CM h ⊢
    have hne : (E != 0) = true := by simpa using h
    clear h e hE ra ul
    go_enter Try.func29, Try.ntmps29
    go_wp2_with fail
    refine CM.out.mono ?_
    rintro _ _ ⟨rfl, rfl⟩
    go_wp2_with fail
    go_ret2
    exact .nil (Below.refl _ _)
end Go.Proofs.Ythcigkcnknibgaa
/- Bytes read as bits, by the document. -/
namespace Go.Proofs.Ythcigkcnknibgaa
open Go.RowKit
set_option maxHeartbeats 400000
set_option maxRecDepth 100000
set_option linter.unusedVariables false
/-- A call's answer: a list that reads so, and an error; nothing that was there has turned. -/
def RdE {α : Type} (enc : α → Value) (xs : List α) (er : Int) (w : World) (e : Ending) (w' : World) : Prop :=
  ∃ A c, e = .returned (.tuple #[.slice A xs.length c, .int .i64 er]) ∧ xs.length ≤ c ∧ c ≤ 9223372036854775807 ∧ Rd enc w' w'.heap.size A xs ∧ Below w.heap.size w w'
theorem RdE.nil {α : Type} {enc : α → Value} {er : Int} {w w' : World} (hb : Below w.heap.size w w') : RdE enc ([] : List α) er w (.returned (.tuple #[.slice none 0 0, .int .i64 er])) w' := ⟨none, 0, rfl, by simp, by omega, Rd.none_, hb⟩
theorem beq_bt8 {x : Int} (h0 : 0 ≤ x) (q : Nat) : ((x / 2 ^ q).tmod 2 == 1) = bt x q := beq_bt h0 q
theorem fB_at {b : List Int} {i j q : Nat} {x : Int} (hx : b[i]? = some x) (h : q + j + 1 = 8) : fB b (8 * i + j) = bt x q := by
  unfold fB
  rw [show (8 * i + j) / 8 = i by omega, show (8 * i + j) % 8 = j by omega, getD_of hx, show 7 - j = q by omega]
end Go.Proofs.Ythcigkcnknibgaa
/- Numbers unpacked, unwoven; signs read, by the document; lists of signs that are the same. -/
namespace Go.Proofs.Ythcigkcnknibgaa
open Go.RowKit
set_option maxHeartbeats 400000
set_option maxRecDepth 100000
set_option linter.unusedVariables false
theorem nmF_32 {t k : Nat} (h : t ≤ k) (hk : k ≤ 32) (g : Nat → Bool) : 0 ≤ nmF t g ∧ nmF t g ≤ 4294967296 := by
  have h1 := nmF_lt t g
  have h2 : (2 : Int) ^ t ≤ 2 ^ 32 := by
    have := Nat.pow_le_pow_right (show 0 < 2 by decide) (show t ≤ 32 by omega)
    exact_mod_cast this
  have h3 : (2 : Int) ^ 32 = 4294967296 := by decide
  omega
end Go.Proofs.Ythcigkcnknibgaa
/- Numbers unwoven, signs read, by the document; lists of signs that are the same. -/
namespace Go.Proofs.Ythcigkcnknibgaa
open Go.RowKit
set_option maxHeartbeats 400000
set_option maxRecDepth 100000
set_option linter.unusedVariables false
theorem ref_SameSigns {A B : Option Addr} {c d : Nat} (xs : List Bool) (hx : xs.length ≤ 9223372036854775807) (w : World) (ra : Rd Value.bool w w.heap.size A xs) (rb : Rd Value.bool w w.heap.size B xs) :
    Calls Try.prog 64 #[.slice A xs.length c, .slice B xs.length d] w fun e w' => e = .returned (.bool true) ∧ Below w.heap.size w w' := by
  have HA := hid ra
  have HB := hid rb
  clear ra rb
  go_enter Try.func64, Try.ntmps64
  go_wp2_with fail
  go_loopw [13] (fun i wr => ∃ k : Nat, k ≤ xs.length ∧ i = .int .i64 k ∧ Below w.heap.size w wr) (fun i _ => xs.length - (intOf i).toNat)
  case atStart => exact ⟨0, by omega, rfl, Below.refl _ _⟩
  case round =>
    obtain ⟨k, hk, rfl, hb⟩ := hrel
    by_cases hlt : k < xs.length
    · obtain ⟨b1, o1, x, rfl, l1, ex, c1⟩ := (HA.out.below hb).at_ hlt
      obtain ⟨b2, o2, y, rfl, l2, ey, c2⟩ := (HB.out.below hb).at_ hlt
      obtain rfl : x = y := Option.some.inj (ex.symm.trans ey)
      have e' : (x != x) = false := by simp
      clear ex ey
      go_wp2_with fail
      go_quiet (fail)
      go_wp2_with fail
      go_roundw
      case rel => exact ⟨k + 1, by omega, by go_num, hb.trans (belowN _ _ _)⟩
      case measure => simp [intOf]; omega
    · go_wp2_with fail
      go_ret
      exact ⟨rfl, hb⟩
end Go.Proofs.Ythcigkcnknibgaa
/- Frames in memory; whether they are the same, by the document. -/
namespace Go.Proofs.Ythcigkcnknibgaa
open Go.RowKit
set_option maxHeartbeats 400000
set_option maxRecDepth 100000
set_option linter.unusedVariables false
/-- Where a vector's lists lie. -/
structure SentP where
  AL : Option Addr
  cL : Nat
  AV : Option Addr
  cV : Nat
  AE : Option Addr
  cE : Nat
  AN : Option Addr
  cN : Nat
def zeroP : SentP := ⟨none, 0, none, 0, none, 0, none, 0⟩
@[reducible] def encT (s : SentV) (p : SentP) : Value := .agg #[.int .i64 s.sch, .int .i64 s.dim, .slice p.AL s.L.length p.cL, .slice p.AV s.V.length p.cV, .int .i64 s.scale, .int .i64 s.wide, .slice p.AE s.lev.length p.cE, .slice p.AN s.neg.length p.cN]
/-- Its lists read so. -/
def RdS (w : World) (B : Nat) (s : SentV) (p : SentP) : Prop := Rd (Value.int .i64) w B p.AL s.L ∧ Rd (Value.int .i64) w B p.AV s.V ∧ Rd (Value.int .u64) w B p.AE s.lev ∧ Rd Value.bool w B p.AN s.neg
theorem RdS.below {w w' : World} {B : Nat} {s : SentV} {p : SentP} (h : RdS w B s p) (hb : Below B w w') : RdS w' B s p := ⟨h.1.below hb, h.2.1.below hb, h.2.2.1.below hb, h.2.2.2.below hb⟩
theorem RdS.more {w : World} {B B' : Nat} {s : SentV} {p : SentP} (h : RdS w B s p) (hB : B ≤ B') : RdS w B' s p := ⟨h.1.more hB, h.2.1.more hB, h.2.2.1.more hB, h.2.2.2.more hB⟩
theorem RdS.on {w w' : World} {s : SentV} {p : SentP} (h : RdS w w.heap.size s p) (hb : Below w.heap.size w w') : RdS w' w'.heap.size s p := (h.below hb).more hb.size
theorem RdS.zero (w : World) (B : Nat) : RdS w B zeroS zeroP := ⟨Rd.none_, Rd.none_, Rd.none_, Rd.none_⟩
/-- How long its lists are at the most. -/
def lnS (n : Nat) (s : SentV) : Prop := s.L.length ≤ n ∧ s.V.length ≤ n ∧ s.lev.length ≤ n ∧ s.neg.length ≤ n
theorem lnS.more {n m : Nat} {s : SentV} (h : lnS n s) (hm : n ≤ m) : lnS m s := ⟨by have := h.1; omega, by have := h.2.1; omega, by have := h.2.2.1; omega, by have := h.2.2.2; omega⟩
theorem ln_zero (n : Nat) : lnS n zeroS := ⟨by simp [zeroS], by simp [zeroS], by simp [zeroS], by simp [zeroS]⟩
theorem takeN_step {xs ys : List Bool} {k : Nat} {x y : Bool} (h : xs.take k = ys.take k) (hx : xs[k]? = some x) (hy : ys[k]? = some y) (e : x = y) : xs.take (k + 1) = ys.take (k + 1) := by
  rw [List.take_add_one, List.take_add_one, h, hx, hy, e]
theorem eqN_no {xs ys : List Bool} {k : Nat} {x y : Bool} (hx : xs[k]? = some x) (hy : ys[k]? = some y) (e : x ≠ y) : eqN xs ys = false := by
  unfold eqN
  rw [decide_eq_false_iff_not]
  rintro rfl
  rw [hx] at hy
  exact e (Option.some.inj hy)
theorem eqN_yes {xs ys : List Bool} {k : Nat} (h : xs.take k = ys.take k) (hx : k = xs.length) (hl : xs.length = ys.length) : eqN xs ys = true := by
  unfold eqN
  rw [List.take_of_length_le (by omega), List.take_of_length_le (by omega)] at h
  simpa using h
theorem eqN_len {xs ys : List Bool} (h : xs.length ≠ ys.length) : eqN xs ys = false := by
  unfold eqN
  rw [decide_eq_false_iff_not]
  rintro rfl
  exact h rfl
theorem ref_SignsEq {A B : Option Addr} {c d : Nat} (xs ys : List Bool) (hx : xs.length ≤ 9223372036854775807) (hy : ys.length ≤ 9223372036854775807) (w : World) {L M : Nat}
    (ra : Rd Value.bool w L A xs) (rb : Rd Value.bool w M B ys) :
    Calls Try.prog 64 #[.slice A xs.length c, .slice B ys.length d] w fun e w' => e = .returned (.bool (eqN xs ys)) ∧ ∃ n, w' = w.drewN n := by
  by_cases hl : xs.length = ys.length
  · have HA := hid ra
    have HB := hid rb
    clear ra rb
    have h1 : ((xs.length : Int) != (ys.length : Int)) = false := by simp; omega
    have h2 : (xs.length != ys.length) = false := by simp; omega
    have HL := hid hl
    clear hl
    go_enter Try.func64, Try.ntmps64
    go_wp2_with fail
    clear h1 h2
    go_loopw [13] (fun i wr => ∃ k : Nat, k ≤ xs.length ∧ i = .int .i64 k ∧ xs.take k = ys.take k ∧ ∃ n, wr = w.drewN n) (fun i _ => xs.length - (intOf i).toNat)
    case atStart => exact ⟨0, by omega, rfl, rfl, 0, rfl⟩
    case round =>
      obtain ⟨k, hk, rfl, ht, n, rfl⟩ := hrel
      have HT := hid ht
      clear ht
      by_cases hlt : k < xs.length
      · have hlt2 : k < ys.length := by have := HL.out; omega
        obtain ⟨b1, o1, x, rfl, l1, ex, c1⟩ := HA.out.at_ hlt
        obtain ⟨b2, o2, y, rfl, l2, ey, c2⟩ := HB.out.at_ hlt2
        have EX := hid ex
        have EY := hid ey
        clear ex ey
        by_cases e : x = y
        · have e' : (x == y) = true := by simpa using e
          have E := hid e
          clear e
          go_wp2_with fail
          go_quiet (fail)
          go_wp2_with fail
          go_roundw
          case rel => exact ⟨k + 1, by omega, by go_num, takeN_step HT.out EX.out EY.out E.out, _, rfl⟩
          case measure => simp [intOf]; omega
        · have e' : (x == y) = false := by simpa using e
          go_wp2_with fail
          go_quiet (fail)
          go_wp2_with fail
          go_ret
          rw [eqN_no EX.out EY.out e]
          exact ⟨rfl, drewN_two _ _ _⟩
      · have hke : k = xs.length := by omega
        have HK := hid hke
        clear hke
        go_wp2_with fail
        go_ret
        rw [eqN_yes HT.out HK.out HL.out]
        exact ⟨rfl, _, rfl⟩
  · rw [eqN_len hl]
    have h1 : ((xs.length : Int) != (ys.length : Int)) = true := by simp; omega
    have h2 : (xs.length != ys.length) = true := by simp; omega
    clear hl ra rb
    go_enter Try.func64, Try.ntmps64
    go_wp2_with fail
    go_ret
    exact ⟨rfl, 0, rfl⟩
theorem ref_NumsEq {A B : Option Addr} {c d : Nat} (xs ys : List Int) (hx : xs.length ≤ 9223372036854775807) (hy : ys.length ≤ 9223372036854775807) (w : World) {L M : Nat}
    (ra : Rd (Value.int .u64) w L A xs) (rb : Rd (Value.int .u64) w M B ys) :
    Calls Try.prog 63 #[.slice A xs.length c, .slice B ys.length d] w fun e w' => e = .returned (.bool (eqB xs ys)) ∧ ∃ n, w' = w.drewN n := by
  by_cases hl : xs.length = ys.length
  · have HA := hid ra
    have HB := hid rb
    clear ra rb
    have h1 : ((xs.length : Int) != (ys.length : Int)) = false := by simp; omega
    have h2 : (xs.length != ys.length) = false := by simp; omega
    have HL := hid hl
    clear hl
    go_enter Try.func63, Try.ntmps63
    go_wp2_with fail
    clear h1 h2
    go_loopw [13] (fun i wr => ∃ k : Nat, k ≤ xs.length ∧ i = .int .i64 k ∧ xs.take k = ys.take k ∧ ∃ n, wr = w.drewN n) (fun i _ => xs.length - (intOf i).toNat)
    case atStart => exact ⟨0, by omega, rfl, rfl, 0, rfl⟩
    case round =>
      obtain ⟨k, hk, rfl, ht, n, rfl⟩ := hrel
      have HT := hid ht
      clear ht
      by_cases hlt : k < xs.length
      · have hlt2 : k < ys.length := by have := HL.out; omega
        obtain ⟨b1, o1, x, rfl, l1, ex, c1⟩ := HA.out.at_ hlt
        obtain ⟨b2, o2, y, rfl, l2, ey, c2⟩ := HB.out.at_ hlt2
        have EX := hid ex
        have EY := hid ey
        clear ex ey
        by_cases e : x = y
        · have e' : (x != y) = false := by simpa using e
          have E := hid e
          clear e
          go_wp2_with fail
          go_quiet (fail)
          go_wp2_with fail
          go_roundw
          case rel => exact ⟨k + 1, by omega, by go_num, take_step HT.out EX.out EY.out E.out, _, rfl⟩
          case measure => simp [intOf]; omega
        · have e' : (x != y) = true := by simpa using e
          go_wp2_with fail
          go_quiet (fail)
          go_wp2_with fail
          go_ret
          rw [eqB_no EX.out EY.out e]
          exact ⟨rfl, drewN_two _ _ _⟩
      · have hke : k = xs.length := by omega
        have HK := hid hke
        clear hke
        go_wp2_with fail
        go_ret
        rw [eqB_yes HT.out HK.out HL.out]
        exact ⟨rfl, _, rfl⟩
  · rw [eqB_len hl]
    have h1 : ((xs.length : Int) != (ys.length : Int)) = true := by simp; omega
    have h2 : (xs.length != ys.length) = true := by simp; omega
    go_enter Try.func63, Try.ntmps63
    go_wp2_with fail
    go_ret
    exact ⟨rfl, 0, rfl⟩
theorem ref_SameSent (a b : SentV) (p q : SentP) (ha : lnS 100000 a) (hb : lnS 100000 b) (w : World) {B D : Nat} (hB : B ≤ w.heap.size) (hD : D ≤ w.heap.size) (ra : RdS w B a p) (rb : RdS w D b q) :
    Calls Try.prog 37 #[encT a p, encT b q] w fun e w' => e = .returned (.bool (sameS a b)) ∧ Below w.heap.size w w' := by
  have C1 := hid (fun W (h : Below w.heap.size w W) => ref_Equal (A := p.AL) (B := q.AL) (c := p.cL) (d := q.cL) a.L b.L (by have := ha.1; omega) (by have := hb.1; omega) W (ra.1.below (h.mono hB)) (rb.1.below (h.mono hD)))
  have C2 := hid (fun W (h : Below w.heap.size w W) => ref_Same64 (A := p.AV) (B := q.AV) (c := p.cV) (d := q.cV) a.V b.V (by have := ha.2.1; omega) (by have := hb.2.1; omega) W (ra.2.1.below (h.mono hB)) (rb.2.1.below (h.mono hD)))
  have C3 := hid (fun W (h : Below w.heap.size w W) => ref_NumsEq (A := p.AE) (B := q.AE) (c := p.cE) (d := q.cE) a.lev b.lev (by have := ha.2.2.1; omega) (by have := hb.2.2.1; omega) W (ra.2.2.1.below (h.mono hB)) (rb.2.2.1.below (h.mono hD)))
  have C4 := hid (fun W (h : Below w.heap.size w W) => ref_SignsEq (A := p.AN) (B := q.AN) (c := p.cN) (d := q.cN) a.neg b.neg (by have := ha.2.2.2; omega) (by have := hb.2.2.2; omega) W (ra.2.2.2.below (h.mono hB)) (rb.2.2.2.below (h.mono hD)))
  unfold sameS
  obtain ⟨vL, eL⟩ : ∃ v, eqB a.L b.L = v := ⟨_, rfl⟩
  obtain ⟨vV, eV⟩ : ∃ v, eqB a.V b.V = v := ⟨_, rfl⟩
  obtain ⟨vlev, elev⟩ : ∃ v, eqB a.lev b.lev = v := ⟨_, rfl⟩
  obtain ⟨vneg, eneg⟩ : ∃ v, eqN a.neg b.neg = v := ⟨_, rfl⟩
  rw [eL] at C1 ⊢
  rw [eV] at C2 ⊢
  rw [elev] at C3 ⊢
  rw [eneg] at C4 ⊢
  obtain ⟨vsch, hsch⟩ : ∃ v, (a.sch == b.sch) = v := ⟨_, rfl⟩
  obtain ⟨vdim, hdim⟩ : ∃ v, (a.dim == b.dim) = v := ⟨_, rfl⟩
  obtain ⟨vscale, hscale⟩ : ∃ v, (a.scale == b.scale) = v := ⟨_, rfl⟩
  obtain ⟨vwide, hwide⟩ : ∃ v, (a.wide == b.wide) = v := ⟨_, rfl⟩
  rw [hsch, hdim, hscale, hwide]
  have K : Hid (∀ n, Below w.heap.size w (((w.alloc (.cells #[.int .i64 a.sch, .int .i64 a.dim, .slice p.AL a.L.length p.cL, .slice p.AV a.V.length p.cV, .int .i64 a.scale, .int .i64 a.wide, .slice p.AE a.lev.length p.cE, .slice p.AN a.neg.length p.cN] 27)).alloc (.cells #[.int .i64 b.sch, .int .i64 b.dim, .slice q.AL b.L.length q.cL, .slice q.AV b.V.length q.cV, .int .i64 b.scale, .int .i64 b.wide, .slice q.AE b.lev.length q.cE, .slice q.AN b.neg.length q.cN] 27)).drewN n)) := hid (fun n => Below.trans (by go_grown) (belowN _ _ n))
  clear eL eV elev eneg ra rb ha hb
  go_enter Try.func37, Try.ntmps37
  go_wp2_with fail
  any_goals (go_ret; exact ⟨by simp [*], by go_grown⟩)
  refine (C1.out _ (by go_grown)).mono ?_
  rintro _ _ ⟨rfl, n1, rfl⟩
  go_wp2_with fail
  any_goals (go_ret; exact ⟨by simp [*], K.out _⟩)
  refine (C2.out _ (K.out _)).mono ?_
  rintro _ _ ⟨rfl, n2, rfl⟩
  go_wp2_with fail
  any_goals (go_ret; exact ⟨by simp [*], K.out _⟩)
  refine (C3.out _ (K.out _)).mono ?_
  rintro _ _ ⟨rfl, n3, rfl⟩
  go_wp2_with fail
  any_goals (go_ret; exact ⟨by simp [*], K.out _⟩)
  refine (C4.out _ (K.out _)).mono ?_
  rintro _ _ ⟨rfl, n4, rfl⟩
  go_wp2_with fail
  go_ret
  exact ⟨by simp [*], K.out _⟩
end Go.Proofs.Ythcigkcnknibgaa
/- Lists and arrays that are compared, by package slices; the program's view of a vector and of a frame. -/
namespace Go.Proofs.Ythcigkcnknibgaa
open Go.RowKit
set_option maxHeartbeats 400000
set_option maxRecDepth 100000
set_option linter.unusedVariables false
theorem eq_u64s {A B : Option Addr} {c d : Nat} (xs ys : List Int) (hx : xs.length ≤ 9223372036854775807) (hy : ys.length ≤ 9223372036854775807) (w : World) {L M : Nat}
    (ra : Rd (Value.int .u64) w L A xs) (rb : Rd (Value.int .u64) w M B ys) :
    Calls Try.prog 42 #[.slice A xs.length c, .slice B ys.length d] w fun e w' => e = .returned (.bool (eqB xs ys)) ∧ ∃ n, w' = w.drewN n := by
  by_cases hl : xs.length = ys.length
  · have HA := hid ra
    have HB := hid rb
    clear ra rb
    have h1 : ((xs.length : Int) != (ys.length : Int)) = false := by simp; omega
    have h2 : (xs.length != ys.length) = false := by simp; omega
    have HL := hid hl
    clear hl
    go_enter Try.func42, Try.ntmps42
    go_wp2_with fail
    clear h1 h2
    go_loopw [13] (fun i wr => ∃ k : Nat, k ≤ xs.length ∧ i = .int .i64 k ∧ xs.take k = ys.take k ∧ ∃ n, wr = w.drewN n) (fun i _ => xs.length - (intOf i).toNat)
    case atStart => exact ⟨0, by omega, rfl, rfl, 0, rfl⟩
    case round =>
      obtain ⟨k, hk, rfl, ht, n, rfl⟩ := hrel
      have HT := hid ht
      clear ht
      by_cases hlt : k < xs.length
      · have hlt2 : k < ys.length := by have := HL.out; omega
        obtain ⟨b1, o1, x, rfl, l1, ex, c1⟩ := HA.out.at_ hlt
        obtain ⟨b2, o2, y, rfl, l2, ey, c2⟩ := HB.out.at_ hlt2
        have EX := hid ex
        have EY := hid ey
        clear ex ey
        by_cases e : x = y
        · have e' : (x != y) = false := by simpa using e
          have E := hid e
          clear e
          go_wp2_with fail
          go_quiet (fail)
          go_wp2_with fail
          go_roundw
          case rel => exact ⟨k + 1, by omega, by go_num, take_step HT.out EX.out EY.out E.out, _, rfl⟩
          case measure => simp [intOf]; omega
        · have e' : (x != y) = true := by simpa using e
          go_wp2_with fail
          go_quiet (fail)
          go_wp2_with fail
          go_ret
          rw [eqB_no EX.out EY.out e]
          exact ⟨rfl, drewN_two _ _ _⟩
      · have hke : k = xs.length := by omega
        have HK := hid hke
        clear hke
        go_wp2_with fail
        go_ret
        rw [eqB_yes HT.out HK.out HL.out]
        exact ⟨rfl, _, rfl⟩
  · rw [eqB_len hl]
    have h1 : ((xs.length : Int) != (ys.length : Int)) = true := by simp; omega
    have h2 : (xs.length != ys.length) = true := by simp; omega
    go_enter Try.func42, Try.ntmps42
    go_wp2_with fail
    go_ret
    exact ⟨rfl, 0, rfl⟩
theorem eq_ints {A B : Option Addr} {c d : Nat} (xs ys : List Int) (hx : xs.length ≤ 9223372036854775807) (hy : ys.length ≤ 9223372036854775807) (w : World) {L M : Nat}
    (ra : Rd (Value.int .i64) w L A xs) (rb : Rd (Value.int .i64) w M B ys) :
    Calls Try.prog 40 #[.slice A xs.length c, .slice B ys.length d] w fun e w' => e = .returned (.bool (eqB xs ys)) ∧ ∃ n, w' = w.drewN n := by
  by_cases hl : xs.length = ys.length
  · have HA := hid ra
    have HB := hid rb
    clear ra rb
    have h1 : ((xs.length : Int) != (ys.length : Int)) = false := by simp; omega
    have h2 : (xs.length != ys.length) = false := by simp; omega
    have HL := hid hl
    clear hl
    go_enter Try.func40, Try.ntmps40
    go_wp2_with fail
    clear h1 h2
    go_loopw [13] (fun i wr => ∃ k : Nat, k ≤ xs.length ∧ i = .int .i64 k ∧ xs.take k = ys.take k ∧ ∃ n, wr = w.drewN n) (fun i _ => xs.length - (intOf i).toNat)
    case atStart => exact ⟨0, by omega, rfl, rfl, 0, rfl⟩
    case round =>
      obtain ⟨k, hk, rfl, ht, n, rfl⟩ := hrel
      have HT := hid ht
      clear ht
      by_cases hlt : k < xs.length
      · have hlt2 : k < ys.length := by have := HL.out; omega
        obtain ⟨b1, o1, x, rfl, l1, ex, c1⟩ := HA.out.at_ hlt
        obtain ⟨b2, o2, y, rfl, l2, ey, c2⟩ := HB.out.at_ hlt2
        have EX := hid ex
        have EY := hid ey
        clear ex ey
        by_cases e : x = y
        · have e' : (x != y) = false := by simpa using e
          have E := hid e
          clear e
          go_wp2_with fail
          go_quiet (fail)
          go_wp2_with fail
          go_roundw
          case rel => exact ⟨k + 1, by omega, by go_num, take_step HT.out EX.out EY.out E.out, _, rfl⟩
          case measure => simp [intOf]; omega
        · have e' : (x != y) = true := by simpa using e
          go_wp2_with fail
          go_quiet (fail)
          go_wp2_with fail
          go_ret
          rw [eqB_no EX.out EY.out e]
          exact ⟨rfl, drewN_two _ _ _⟩
      · have hke : k = xs.length := by omega
        have HK := hid hke
        clear hke
        go_wp2_with fail
        go_ret
        rw [eqB_yes HT.out HK.out HL.out]
        exact ⟨rfl, _, rfl⟩
  · rw [eqB_len hl]
    have h1 : ((xs.length : Int) != (ys.length : Int)) = true := by simp; omega
    have h2 : (xs.length != ys.length) = true := by simp; omega
    go_enter Try.func40, Try.ntmps40
    go_wp2_with fail
    go_ret
    exact ⟨rfl, 0, rfl⟩
theorem eq_i64s {A B : Option Addr} {c d : Nat} (xs ys : List Int) (hx : xs.length ≤ 9223372036854775807) (hy : ys.length ≤ 9223372036854775807) (w : World) {L M : Nat}
    (ra : Rd (Value.int .i64) w L A xs) (rb : Rd (Value.int .i64) w M B ys) :
    Calls Try.prog 65 #[.slice A xs.length c, .slice B ys.length d] w fun e w' => e = .returned (.bool (eqB xs ys)) ∧ ∃ n, w' = w.drewN n := by
  by_cases hl : xs.length = ys.length
  · have HA := hid ra
    have HB := hid rb
    clear ra rb
    have h1 : ((xs.length : Int) != (ys.length : Int)) = false := by simp; omega
    have h2 : (xs.length != ys.length) = false := by simp; omega
    have HL := hid hl
    clear hl
    go_enter Try.func65, Try.ntmps65
    go_wp2_with fail
    clear h1 h2
    go_loopw [13] (fun i wr => ∃ k : Nat, k ≤ xs.length ∧ i = .int .i64 k ∧ xs.take k = ys.take k ∧ ∃ n, wr = w.drewN n) (fun i _ => xs.length - (intOf i).toNat)
    case atStart => exact ⟨0, by omega, rfl, rfl, 0, rfl⟩
    case round =>
      obtain ⟨k, hk, rfl, ht, n, rfl⟩ := hrel
      have HT := hid ht
      clear ht
      by_cases hlt : k < xs.length
      · have hlt2 : k < ys.length := by have := HL.out; omega
        obtain ⟨b1, o1, x, rfl, l1, ex, c1⟩ := HA.out.at_ hlt
        obtain ⟨b2, o2, y, rfl, l2, ey, c2⟩ := HB.out.at_ hlt2
        have EX := hid ex
        have EY := hid ey
        clear ex ey
        by_cases e : x = y
        · have e' : (x != y) = false := by simpa using e
          have E := hid e
          clear e
          go_wp2_with fail
          go_quiet (fail)
          go_wp2_with fail
          go_roundw
          case rel => exact ⟨k + 1, by omega, by go_num, take_step HT.out EX.out EY.out E.out, _, rfl⟩
          case measure => simp [intOf]; omega
        · have e' : (x != y) = true := by simpa using e
          go_wp2_with fail
          go_quiet (fail)
          go_wp2_with fail
          go_ret
          rw [eqB_no EX.out EY.out e]
          exact ⟨rfl, drewN_two _ _ _⟩
      · have hke : k = xs.length := by omega
        have HK := hid hke
        clear hke
        go_wp2_with fail
        go_ret
        rw [eqB_yes HT.out HK.out HL.out]
        exact ⟨rfl, _, rfl⟩
  · rw [eqB_len hl]
    have h1 : ((xs.length : Int) != (ys.length : Int)) = true := by simp; omega
    have h2 : (xs.length != ys.length) = true := by simp; omega
    go_enter Try.func65, Try.ntmps65
    go_wp2_with fail
    go_ret
    exact ⟨rfl, 0, rfl⟩
theorem eq_bools {A B : Option Addr} {c d : Nat} (xs ys : List Bool) (hx : xs.length ≤ 9223372036854775807) (hy : ys.length ≤ 9223372036854775807) (w : World) {L M : Nat}
    (ra : Rd Value.bool w L A xs) (rb : Rd Value.bool w M B ys) :
    Calls Try.prog 43 #[.slice A xs.length c, .slice B ys.length d] w fun e w' => e = .returned (.bool (eqN xs ys)) ∧ ∃ n, w' = w.drewN n := by
  by_cases hl : xs.length = ys.length
  · have HA := hid ra
    have HB := hid rb
    clear ra rb
    have h1 : ((xs.length : Int) != (ys.length : Int)) = false := by simp; omega
    have h2 : (xs.length != ys.length) = false := by simp; omega
    have HL := hid hl
    clear hl
    go_enter Try.func43, Try.ntmps43
    go_wp2_with fail
    clear h1 h2
    go_loopw [13] (fun i wr => ∃ k : Nat, k ≤ xs.length ∧ i = .int .i64 k ∧ xs.take k = ys.take k ∧ ∃ n, wr = w.drewN n) (fun i _ => xs.length - (intOf i).toNat)
    case atStart => exact ⟨0, by omega, rfl, rfl, 0, rfl⟩
    case round =>
      obtain ⟨k, hk, rfl, ht, n, rfl⟩ := hrel
      have HT := hid ht
      clear ht
      by_cases hlt : k < xs.length
      · have hlt2 : k < ys.length := by have := HL.out; omega
        obtain ⟨b1, o1, x, rfl, l1, ex, c1⟩ := HA.out.at_ hlt
        obtain ⟨b2, o2, y, rfl, l2, ey, c2⟩ := HB.out.at_ hlt2
        have EX := hid ex
        have EY := hid ey
        clear ex ey
        by_cases e : x = y
        · subst e
          have EE : Hid (xs.take (k + 1) = ys.take (k + 1)) := hid (takeN_step HT.out EX.out EY.out rfl)
          cases x
          · go_wp2_with fail
            go_quiet (fail)
            go_wp2_with fail
            go_roundw
            case rel => exact ⟨k + 1, by omega, by go_num, EE.out, _, rfl⟩
            case measure => simp [intOf]; omega
          · go_wp2_with fail
            go_quiet (fail)
            go_wp2_with fail
            go_roundw
            case rel => exact ⟨k + 1, by omega, by go_num, EE.out, _, rfl⟩
            case measure => simp [intOf]; omega
        · have hne := eqN_no EX.out EY.out e
          cases x <;> cases y
          · exact absurd rfl e
          · go_wp2_with fail
            go_quiet (fail)
            go_wp2_with fail
            go_ret
            rw [hne]
            exact ⟨rfl, drewN_two _ _ _⟩
          · go_wp2_with fail
            go_quiet (fail)
            go_wp2_with fail
            go_ret
            rw [hne]
            exact ⟨rfl, drewN_two _ _ _⟩
          · exact absurd rfl e
      · have hke : k = xs.length := by omega
        have HK := hid hke
        clear hke
        go_wp2_with fail
        go_ret
        rw [eqN_yes HT.out HK.out HL.out]
        exact ⟨rfl, _, rfl⟩
  · rw [eqN_len hl]
    have h1 : ((xs.length : Int) != (ys.length : Int)) = true := by simp; omega
    have h2 : (xs.length != ys.length) = true := by simp; omega
    clear hl ra rb
    go_enter Try.func43, Try.ntmps43
    go_wp2_with fail
    go_ret
    exact ⟨rfl, 0, rfl⟩
theorem vec_SameQ {A B : Option Addr} {c d : Nat} (xs ys : List Int) (hx : xs.length ≤ 9223372036854775807) (hy : ys.length ≤ 9223372036854775807) (w : World) {L M : Nat}
    (ra : Rd (Value.int .i64) w L A xs) (rb : Rd (Value.int .i64) w M B ys) :
    Calls Try.prog 41 #[.slice A xs.length c, .slice B ys.length d] w fun e w' => e = .returned (.bool (eqB xs ys)) ∧ ∃ n, w' = w.drewN n := by
  have C := hid (eq_i64s (c := c) (d := d) xs ys hx hy w ra rb)
  clear ra rb
  go_enter Try.func41, Try.ntmps41
  go_wp2_with fail
  refine C.out.mono ?_
  rintro _ _ ⟨rfl, n1, rfl⟩
  go_wp2_with fail
  go_ret
  exact ⟨rfl, _, rfl⟩
theorem equal_three (a b c a' b' c' : Int) (w : World) :
    (Op.equalIn 10000 57 (.agg #[.int .i64 a, .int .i64 b, .int .i64 c]) (.agg #[.int .i64 a', .int .i64 b', .int .i64 c'])).run Try.prog w = .ok (eqB [a, b, c] [a', b', c']) w := by
  have h0 : ∀ (x0 x1 x2 : Int) (w : World), (part 3 #[.int .i64 x0, .int .i64 x1, .int .i64 x2] 0).run Try.prog w = .ok (.int .i64 x0) w := fun _ _ _ _ => by kernel_rfl
  have h1 : ∀ (x0 x1 x2 : Int) (w : World), (part 3 #[.int .i64 x0, .int .i64 x1, .int .i64 x2] 1).run Try.prog w = .ok (.int .i64 x1) w := fun _ _ _ _ => by kernel_rfl
  have h2 : ∀ (x0 x1 x2 : Int) (w : World), (part 3 #[.int .i64 x0, .int .i64 x1, .int .i64 x2] 2).run Try.prog w = .ok (.int .i64 x2) w := fun _ _ _ _ => by kernel_rfl
  have hs : (sizeOf 3).run Try.prog w = .ok 1 w := by kernel_rfl
  rw [show (10000 : Nat) = 9998 + 1 + 1 from rfl]
  unfold Op.equalIn
  simp only [Sem.run_bind, run_underlying Try.underlying57, Result.andThen_ok, hs]
  simp only [Std.Legacy.Range.forIn_eq_forIn_range', Std.Legacy.Range.size]
  simp only [Nat.sub_zero, Nat.reduceAdd, Nat.reduceSub, Nat.reduceDiv, List.range', List.forIn_cons, List.forIn_nil, Sem.run_bind]
  have hq : ∀ x y : Int, (Op.equalIn 9999 3 (.int .i64 x) (.int .i64 y)).run Try.prog w = .ok (x == y) w := fun x y => run_equalIn_int w 9998 _ _ _ _ _ Try.underlying3
  simp only [Nat.zero_mul, Nat.one_mul, h0, hq, Result.andThen_ok]
  unfold eqB
  by_cases e0 : a = a'
  · subst e0
    by_cases e1 : b = b'
    · subst e1
      by_cases e2 : c = c' <;> simp [h1, h2, hq, e2]
    · simp [h1, hq, e1]
  · simp [e0]
theorem equal_eight (a b c d e f g h a' b' c' d' e' f' g' h' : Int) (w : World) :
    (Op.equalIn 10000 59 (.agg #[.int .i64 a, .int .i64 b, .int .i64 c, .int .i64 d, .int .i64 e, .int .i64 f, .int .i64 g, .int .i64 h]) (.agg #[.int .i64 a', .int .i64 b', .int .i64 c', .int .i64 d', .int .i64 e', .int .i64 f', .int .i64 g', .int .i64 h'])).run Try.prog w = .ok (eqB [a, b, c, d, e, f, g, h] [a', b', c', d', e', f', g', h']) w := by
  have h0 : ∀ (x0 x1 x2 x3 x4 x5 x6 x7 : Int) (w : World), (part 2 #[.int .i64 x0, .int .i64 x1, .int .i64 x2, .int .i64 x3, .int .i64 x4, .int .i64 x5, .int .i64 x6, .int .i64 x7] 0).run Try.prog w = .ok (.int .i64 x0) w := fun _ _ _ _ _ _ _ _ _ => by kernel_rfl
  have h1 : ∀ (x0 x1 x2 x3 x4 x5 x6 x7 : Int) (w : World), (part 2 #[.int .i64 x0, .int .i64 x1, .int .i64 x2, .int .i64 x3, .int .i64 x4, .int .i64 x5, .int .i64 x6, .int .i64 x7] 1).run Try.prog w = .ok (.int .i64 x1) w := fun _ _ _ _ _ _ _ _ _ => by kernel_rfl
  have h2 : ∀ (x0 x1 x2 x3 x4 x5 x6 x7 : Int) (w : World), (part 2 #[.int .i64 x0, .int .i64 x1, .int .i64 x2, .int .i64 x3, .int .i64 x4, .int .i64 x5, .int .i64 x6, .int .i64 x7] 2).run Try.prog w = .ok (.int .i64 x2) w := fun _ _ _ _ _ _ _ _ _ => by kernel_rfl
  have h3 : ∀ (x0 x1 x2 x3 x4 x5 x6 x7 : Int) (w : World), (part 2 #[.int .i64 x0, .int .i64 x1, .int .i64 x2, .int .i64 x3, .int .i64 x4, .int .i64 x5, .int .i64 x6, .int .i64 x7] 3).run Try.prog w = .ok (.int .i64 x3) w := fun _ _ _ _ _ _ _ _ _ => by kernel_rfl
  have h4 : ∀ (x0 x1 x2 x3 x4 x5 x6 x7 : Int) (w : World), (part 2 #[.int .i64 x0, .int .i64 x1, .int .i64 x2, .int .i64 x3, .int .i64 x4, .int .i64 x5, .int .i64 x6, .int .i64 x7] 4).run Try.prog w = .ok (.int .i64 x4) w := fun _ _ _ _ _ _ _ _ _ => by kernel_rfl
  have h5 : ∀ (x0 x1 x2 x3 x4 x5 x6 x7 : Int) (w : World), (part 2 #[.int .i64 x0, .int .i64 x1, .int .i64 x2, .int .i64 x3, .int .i64 x4, .int .i64 x5, .int .i64 x6, .int .i64 x7] 5).run Try.prog w = .ok (.int .i64 x5) w := fun _ _ _ _ _ _ _ _ _ => by kernel_rfl
  have h6 : ∀ (x0 x1 x2 x3 x4 x5 x6 x7 : Int) (w : World), (part 2 #[.int .i64 x0, .int .i64 x1, .int .i64 x2, .int .i64 x3, .int .i64 x4, .int .i64 x5, .int .i64 x6, .int .i64 x7] 6).run Try.prog w = .ok (.int .i64 x6) w := fun _ _ _ _ _ _ _ _ _ => by kernel_rfl
  have h7 : ∀ (x0 x1 x2 x3 x4 x5 x6 x7 : Int) (w : World), (part 2 #[.int .i64 x0, .int .i64 x1, .int .i64 x2, .int .i64 x3, .int .i64 x4, .int .i64 x5, .int .i64 x6, .int .i64 x7] 7).run Try.prog w = .ok (.int .i64 x7) w := fun _ _ _ _ _ _ _ _ _ => by kernel_rfl
  have hs : (sizeOf 2).run Try.prog w = .ok 1 w := by kernel_rfl
  rw [show (10000 : Nat) = 9998 + 1 + 1 from rfl]
  unfold Op.equalIn
  simp only [Sem.run_bind, run_underlying Try.underlying59, Result.andThen_ok, hs]
  simp only [Std.Legacy.Range.forIn_eq_forIn_range', Std.Legacy.Range.size]
  simp only [Nat.sub_zero, Nat.reduceAdd, Nat.reduceSub, Nat.reduceDiv, List.range', List.forIn_cons, List.forIn_nil, Sem.run_bind]
  have hq : ∀ x y : Int, (Op.equalIn 9999 2 (.int .i64 x) (.int .i64 y)).run Try.prog w = .ok (x == y) w := fun x y => run_equalIn_int w 9998 _ _ _ _ _ Try.underlying2
  simp only [Nat.zero_mul, Nat.one_mul, h0, hq, Result.andThen_ok]
  unfold eqB
  by_cases e0 : a = a'
  · subst e0
    by_cases e1 : b = b'
    · subst e1
      by_cases e2 : c = c'
      · subst e2
        by_cases e3 : d = d'
        · subst e3
          by_cases e4 : e = e'
          · subst e4
            by_cases e5 : f = f'
            · subst e5
              by_cases e6 : g = g'
              · subst e6
                by_cases e7 : h = h' <;> simp [h1, h2, h3, h4, h5, h6, h7, hq, e7]
              · simp [h1, h2, h3, h4, h5, h6, hq, e6]
            · simp [h1, h2, h3, h4, h5, hq, e5]
          · simp [h1, h2, h3, h4, hq, e4]
        · simp [h1, h2, h3, hq, e3]
      · simp [h1, h2, hq, e2]
    · simp [h1, hq, e1]
  · simp [e0]
end Go.Proofs.Ythcigkcnknibgaa
/- Function values: a call of one enters its function. -/
namespace Go.Proofs.Ythcigkcnknibgaa
open Go.RowKit
set_option maxRecDepth 100000
set_option linter.unusedVariables false
theorem cl_enter (K : FuncId) (hK : (Try.prog.funcs[K]?).map (fun f => f.name == "runtime.NumGoroutine" || f.body.isNone) = some false) (args : Array Value) (W : World) : (callFunc K args).run Try.prog W = .ok (.enter K args) W := by
  obtain ⟨fn, hf, hb⟩ := Option.map_eq_some_iff.1 hK
  simp only [Bool.or_eq_false_iff] at hb
  have h1 : ¬ fn.name = "runtime.NumGoroutine" := by simpa using hb.1
  have h2 : ¬ fn.body = none := fun e => by simp [e] at hb
  simp [callFunc, hf, h1, h2, go_sem]
end Go.Proofs.Ythcigkcnknibgaa
/- The program's places: whether they may be, by a closure that keeps the place ahead. -/
namespace Go.Proofs.Ythcigkcnknibgaa
open Go.RowKit
set_option maxHeartbeats 400000
set_option maxRecDepth 100000
set_option linter.unusedVariables false
/-- Places that rise, below an end. -/
def gdP (E : Int) (l : List Int) : Prop := risP l ∧ ∀ n ∈ l, 0 ≤ n ∧ n < E
instance (E : Int) (l : List Int) : Decidable (gdP E l) := by unfold gdP; infer_instance
def gdB (E : Int) (l : List Int) : Bool := decide (gdP E l)
theorem gd_nil (E : Int) : gdP E [] := ⟨ris_nil, by simp⟩
theorem lastI_big : ∀ {l : List Int} {x : Int}, risP l → x ∈ l → x ≤ lastI (-1) l := by
  intro l x h hx
  rcases List.eq_nil_or_concat l with rfl | ⟨l', y, rfl⟩
  · simp at hx
  · rw [List.concat_eq_append] at *
    rw [lastI_snoc]
    rcases List.mem_append.1 hx with hx | hx
    · have := (ris_snoc.1 h).2 x hx; omega
    · simp at hx; omega
theorem lastI_from {l : List Int} {E : Int} (h : gdP E l) : -1 ≤ lastI (-1) l := by
  rcases lastI_mem l (-1) with ⟨e, _⟩ | hm
  · omega
  · have := h.2 _ hm; omega
theorem gd_step {E : Int} {l : List Int} {k : Nat} {x : Int} (h : gdP E (l.take k)) (hx : l[k]? = some x) : gdP E (l.take (k + 1)) ↔ lastI (-1) (l.take k) < x ∧ x < E := by
  rw [take_snoc hx]
  unfold gdP
  rw [ris_snoc]
  have hf := lastI_from h
  constructor
  · rintro ⟨⟨h1, h2⟩, h3⟩
    have hxE := h3 x (by simp)
    refine ⟨?_, hxE.2⟩
    rcases lastI_mem (l.take k) (-1) with ⟨e, _⟩ | hm
    · omega
    · exact h2 _ hm
  · rintro ⟨h1, h2⟩
    refine ⟨⟨h.1, fun y hy => ?_⟩, fun y hy => ?_⟩
    · have := lastI_big h.1 hy; omega
    · rcases List.mem_append.1 hy with hy | hy
      · exact h.2 y hy
      · simp at hy; omega
theorem gd_no {E : Int} {l : List Int} {k : Nat} {x : Int} (h : gdP E (l.take k)) (hx : l[k]? = some x) (hn : ¬ (lastI (-1) (l.take k) < x ∧ x < E)) : ¬ gdP E l := fun hg => by
  refine hn ((gd_step h hx).1 ⟨ris_take hg.1 _, fun n hm => hg.2 n (List.mem_of_mem_take hm)⟩)
/-- The closure's two cells. -/
def Kept (w : World) (p q : Nat) (a E : Int) : Prop := w.cell? ⟨p, 0, none⟩ = some (.int .i64 a) ∧ w.frozen? ⟨p, 0, none⟩ = false ∧ w.cell? ⟨q, 0, none⟩ = some (.int .i64 E)
theorem ix_may (dim : Int) (hd : I64 dim) (w : World) :
    Calls Try.prog 76 #[.int .i64 dim] w fun e w' => e = .returned (.bool (decide (1 ≤ dim ∧ dim ≤ 4096))) ∧ w = w' := by
  unfold I64 at hd
  by_cases h1 : 1 ≤ dim
  · by_cases h2 : dim ≤ 4096
    · rw [decide_eq_true ⟨h1, h2⟩]
      go_enter Try.func76, Try.ntmps76
      go_wp2_with fail
      go_ret
      exact ⟨rfl, rfl⟩
    · rw [decide_eq_false (fun h => h2 h.2)]
      go_enter Try.func76, Try.ntmps76
      go_wp2_with fail
      go_ret
      exact ⟨rfl, rfl⟩
  · rw [decide_eq_false (fun h => h1 h.1)]
    go_enter Try.func76, Try.ntmps76
    go_wp2_with fail
    go_ret
    exact ⟨rfl, rfl⟩
theorem ix_stray (E : Int) (w : World) :
    Calls Try.prog 78 #[.int .i64 E] w fun e w' => e = .returned (.func (.func 89) #[] #[.pointer (some ⟨w.heap.size + 1, 0, none⟩), .pointer (some ⟨w.heap.size, 0, none⟩)]) ∧ Kept w' (w.heap.size + 1) w.heap.size (-1) E ∧ Below w.heap.size w w' := by
  go_enter Try.func78, Try.ntmps78
  go_wp2_with fail
  go_ret
  refine ⟨rfl, ⟨?_, ?_, ?_⟩, ?_⟩
  · simp [go_sem]
  · simp [go_sem]
  · simp [go_sem]
  · go_grown
theorem Kept.below {w w' : World} {p q B : Nat} {a E : Int} (h : Kept w p q a E) (hb : Below B w w') (hp : p < B) (hq : q < B) : Kept w' p q a E :=
  ⟨(hb.cell (p := ⟨p, 0, none⟩) hp).trans h.1, (hb.frozen (p := ⟨p, 0, none⟩) hp).trans h.2.1, (hb.cell (p := ⟨q, 0, none⟩) hq).trans h.2.2⟩
/-- One place asked. -/
theorem stray_cl {p q B : Nat} (hpq : p ≠ q) (hB : B ≤ p) (a E x : Int) (w : World) (hk : Kept w p q a E) :
    Calls Try.prog 89 (#[.int .i64 x] ++ #[.pointer (some ⟨p, 0, none⟩), .pointer (some ⟨q, 0, none⟩)]) w fun e w' => e = .returned (.bool (!decide (a < x ∧ x < E))) ∧ Kept w' p q x E ∧ Below B w w' := by
  obtain ⟨c1, c2, c3⟩ := hk
  have key : ∀ n, Kept ((w.drewN n).setCell ⟨p, 0, none⟩ (.int .i64 x)) p q x E ∧ Below B w ((w.drewN n).setCell ⟨p, 0, none⟩ (.int .i64 x)) := fun n => by
    refine ⟨⟨World.cell?_setCell_same _ _ _ c1, ?_, ?_⟩, (belowN B w n).setCell hB _⟩
    · rw [World.frozen?_setCell]; exact c2
    · rw [World.cell?_setCell_other _ _ _ _ (by intro e; injection e with e1 e2; exact hpq e1)]; exact c3
  have HK := hid key
  clear key
  by_cases h1 : x ≤ a
  · rw [decide_eq_false (fun h => by omega)]
    go_enter Try.func89, Try.ntmps89
    go_wp2_with fail
    go_ret
    exact ⟨rfl, HK.out 0⟩
  · by_cases h2 : E ≤ x
    · rw [decide_eq_false (fun h => by omega)]
      go_enter Try.func89, Try.ntmps89
      go_wp2_with fail
      go_ret
      exact ⟨rfl, HK.out 0⟩
    · rw [decide_eq_true (show a < x ∧ x < E by omega)]
      go_enter Try.func89, Try.ntmps89
      go_wp2_with fail
      go_ret
      exact ⟨rfl, HK.out 0⟩
theorem stray_index {A : Option Addr} {c p q B : Nat} (hpq : p ≠ q) (hp : B ≤ p) (hq : B ≤ q) (E : Int) (l : List Int) (hl : l.length ≤ 9223372036854775807) (w : World) (ra : Rd (Value.int .i64) w B A l) (hk : Kept w p q (-1) E) :
    Calls Try.prog 88 #[.slice A l.length c, .func (.func 89) #[] #[.pointer (some ⟨p, 0, none⟩), .pointer (some ⟨q, 0, none⟩)]] w fun e w' => ∃ r : Int, e = .returned (.int .i64 r) ∧ decide (0 ≤ r) = !gdB E l ∧ Below B w w' := by
  have HC := hid (fun a x W h => stray_cl (p := p) (q := q) (B := B) hpq hp a E x W h)
  have hcl := cl_enter 89 (by kernel_rfl)
  have HA := hid ra
  have HY : Hid (gdP E l → gdB E l = true) := hid (fun h => decide_eq_true h)
  have HN : Hid (¬ gdP E l → gdB E l = false) := hid (fun h => decide_eq_false h)
  obtain ⟨R, hR⟩ : ∃ R, gdB E l = R := ⟨_, rfl⟩
  rw [hR] at HY HN ⊢
  clear ra hR
  have HK := hid hk
  clear hk
  go_enter Try.func88, Try.ntmps88
  go_wp2_with fail
  go_loopw [5, 8] (fun i0 i wr => ∃ k : Nat, k ≤ l.length ∧ i = .int .i64 k ∧ gdP E (l.take k) ∧ Kept wr p q (lastI (-1) (l.take k)) E ∧ Below B w wr) (fun _ i _ => l.length - (intOf i).toNat)
  case atStart => exact ⟨0, by omega, rfl, by rw [List.take_zero]; exact gd_nil E, HK.out, Below.refl _ _⟩
  case round =>
    obtain ⟨k, hk, rfl, hg, hkp, hb⟩ := hrel
    have HG := hid hg
    have HP := hid hkp
    clear hg hkp
    by_cases hlt : k < l.length
    · obtain ⟨b1, o1, x, rfl, l1, ex, c1⟩ := (HA.out.below hb).at_ hlt
      have C := hid (HC.out (lastI (-1) (l.take k)) x wr HP.out)
      have HL := hid (lastI_step ex)
      have HS := hid (gd_step HG.out ex)
      have HF := hid (gd_no HG.out ex)
      obtain ⟨t, ht⟩ : ∃ t, lastI (-1) (l.take k) = t := ⟨_, rfl⟩
      rw [ht] at C HS HF
      clear ex ht HP
      by_cases a : t < x ∧ x < E
      · rw [decide_eq_true a] at C
        have HG2 := hid (HS.out.2 a)
        clear a HS HF
        go_wp2_with fail
        refine C.out.mono ?_
        rintro _ w2 ⟨rfl, hk2, hb2⟩
        have HK2 := hid hk2
        clear hk2
        go_wp2_with fail
        go_roundw
        case rel => exact ⟨k + 1, by omega, by go_num, HG2.out, by rw [HL.out]; exact HK2.out, hb.trans hb2⟩
        case measure => simp [intOf]; omega
      · rw [decide_eq_false a] at C
        have hR := HN.out (HF.out a)
        subst hR
        clear a HS HF
        go_wp2_with fail
        refine C.out.mono ?_
        rintro _ w2 ⟨rfl, hk2, hb2⟩
        clear hk2
        go_wp2_with fail
        go_ret
        exact ⟨_, rfl, decide_eq_true (by omega), hb.trans hb2⟩
    · have hR := HY.out (by have h := HG.out; rw [List.take_of_length_le (by omega)] at h; exact h)
      subst hR
      go_wp2_with fail
      go_ret
      exact ⟨_, rfl, by decide, hb⟩
theorem stray_contains {A : Option Addr} {c p q B : Nat} (hpq : p ≠ q) (hp : B ≤ p) (hq : B ≤ q) (E : Int) (l : List Int) (hl : l.length ≤ 9223372036854775807) (w : World) (ra : Rd (Value.int .i64) w B A l) (hk : Kept w p q (-1) E) :
    Calls Try.prog 77 #[.slice A l.length c, .func (.func 89) #[] #[.pointer (some ⟨p, 0, none⟩), .pointer (some ⟨q, 0, none⟩)]] w fun e w' => e = .returned (.bool (!gdB E l)) ∧ Below B w w' := by
  have C := hid (stray_index (A := A) (c := c) hpq hp hq E l hl w ra hk)
  obtain ⟨R, hR⟩ : ∃ R, (!gdB E l) = R := ⟨_, rfl⟩
  rw [hR] at C ⊢
  clear hR ra hk
  go_enter Try.func77, Try.ntmps77
  go_wp2_with fail
  refine C.out.mono ?_
  rintro _ w2 ⟨r, rfl, hr, hb⟩
  go_wp2_with fail
  go_ret
  exact ⟨rfl, hb⟩
theorem ix_Check {A : Option Addr} {c : Nat} (dim : Int) (l : List Int) (hd : I64 dim) (hl : l.length ≤ 100000) (w : World) (ra : Rd (Value.int .i64) w w.heap.size A l) :
    Calls Try.prog 57 #[.int .i64 dim, .slice A l.length c] w fun e w' => e = .returned (.int .i64 (chkE dim l)) ∧ Below w.heap.size w w' := by
  have CM := hid (ix_may dim hd)
  have HA := hid ra
  by_cases h1 : 1 ≤ dim ∧ dim ≤ 4096
  · have e : chkE dim l = if gdB dim l = true then 0 else 1 := by
      by_cases g : gdP dim l
      · rw [chk_ok.2 ⟨h1.1, h1.2, g.1, g.2⟩, if_pos (show gdB dim l = true from decide_eq_true g)]
      · rw [chk_no (fun h => g ⟨h.2.2.1, h.2.2.2⟩), if_neg]
        unfold gdB
        simpa using g
    rw [decide_eq_true h1] at CM
    rw [e]
    have CS := hid (ix_stray dim w)
    have CC := hid (fun W h1 h2 => stray_contains (A := A) (c := c) (p := w.heap.size + 1) (q := w.heap.size) (B := w.heap.size) (by omega) (by omega) (by omega) dim l (by omega) W h1 h2)
    obtain ⟨R, hR⟩ : ∃ R, gdB dim l = R := ⟨_, rfl⟩
    rw [hR] at CC ⊢
    clear hR e ra h1
    go_enter Try.func57, Try.ntmps57
    go_wp2_with fail
    refine (CM.out w).mono ?_
    rintro _ _ ⟨rfl, rfl⟩
    go_wp2_with fail
    refine CS.out.mono ?_
    rintro _ w1 ⟨rfl, hk1, hb1⟩
    have C := hid (CC.out w1 (HA.out.below hb1) hk1)
    clear CC CS CM hk1
    cases R with
    | true =>
      go_wp2_with fail
      refine C.out.mono ?_
      rintro _ w2 ⟨rfl, hb2⟩
      go_wp2_with fail
      go_ret
      exact ⟨rfl, hb1.trans hb2⟩
    | false =>
      go_wp2_with fail
      refine C.out.mono ?_
      rintro _ w2 ⟨rfl, hb2⟩
      go_wp2_with fail
      go_ret
      exact ⟨rfl, hb1.trans hb2⟩
  · rw [decide_eq_false h1] at CM
    rw [chk_no (fun h => h1 ⟨h.1, h.2.1⟩)]
    clear ra h1
    go_enter Try.func57, Try.ntmps57
    go_wp2_with fail
    refine (CM.out w).mono ?_
    rintro _ _ ⟨rfl, rfl⟩
    go_wp2_with fail
    go_ret
    exact ⟨rfl, Below.refl _ _⟩
end Go.Proofs.Ythcigkcnknibgaa
/- Bits set one by one, wherever they go: plain mathematics. -/
namespace Go.Proofs.Ythcigkcnknibgaa
open Go.RowKit
set_option maxRecDepth 100000
set_option linter.unusedVariables false
theorem byF_congr {n : Nat} {f g : Nat → Bool} (h : ∀ k, k < n → f k = g k) (i : Nat) : byF n f i = byF n g i := by
  have e : ∀ p w, bv n f p w = bv n g p w := fun p w => by
    unfold bv
    by_cases hp : p < n
    · rw [h p hp]
    · rw [if_neg (by omega), if_neg (by omega)]
  unfold byF
  simp only [e]
theorem byF_same {n a i : Nat} {f g : Nat → Bool} (h : ∀ p, p < n → p ≠ a → g p = f p) (hi : i ≠ a / 8) : byF n g i = byF n f i := by
  have e : ∀ p w, p / 8 = i → bv n g p w = bv n f p w := fun p w hp => by
    unfold bv
    by_cases hn : p < n
    · rw [h p hn (by omega)]
    · rw [if_neg (by omega), if_neg (by omega)]
  unfold byF
  rw [e _ _ (by omega), e _ _ (by omega), e _ _ (by omega), e _ _ (by omega), e _ _ (by omega), e _ _ (by omega), e _ _ (by omega), e _ _ (by omega)]
theorem or8 : ∀ (r : Fin 8) (a b c d e f g h : Bool), [a, b, c, d, e, f, g, h].getD r.val false = false →
    bits BinOp.or IntKind.u8 (sum8 a b c d e f g h) (2 ^ (7 - r.val)) = sum8 (a || r.val == 0) (b || r.val == 1) (c || r.val == 2) (d || r.val == 3) (e || r.val == 4) (f || r.val == 5) (g || r.val == 6) (h || r.val == 7) := by decide +kernel
theorem byF_set {n a : Nat} {f g : Nat → Bool} (ha : a < n) (h0 : f a = false) (h1 : g a = true) (h : ∀ p, p < n → p ≠ a → g p = f p) :
    bits BinOp.or IntKind.u8 (byF n f (a / 8)) (2 ^ (7 - a % 8)) = byF n g (a / 8) := by
  have e : ∀ t, t < 8 → (decide (8 * (a / 8) + t < n) && g (8 * (a / 8) + t)) = ((decide (8 * (a / 8) + t < n) && f (8 * (a / 8) + t)) || a % 8 == t) := fun t ht => by
    by_cases he : a % 8 = t
    · rw [show 8 * (a / 8) + t = a by omega, h1]
      simp [ha, he]
    · by_cases hn : 8 * (a / 8) + t < n
      · rw [h _ hn (by omega)]
        simp [he]
      · simp [he, hn]
  have e0 := e 0 (by omega)
  rw [Nat.add_zero] at e0
  rw [byF_sum, byF_sum, e0, e 1 (by omega), e 2 (by omega), e 3 (by omega), e 4 (by omega), e 5 (by omega), e 6 (by omega), e 7 (by omega)]
  refine or8 ⟨a % 8, by omega⟩ _ _ _ _ _ _ _ _ ?_
  have ea : ∀ t, a % 8 = t → (decide (8 * (a / 8) + t < n) && f (8 * (a / 8) + t)) = false := fun t ht => by
    rw [show 8 * (a / 8) + t = a by omega, h0, Bool.and_false]
  have h8 : a % 8 < 8 := by omega
  show List.getD _ (a % 8) false = false
  obtain ⟨r, hr⟩ : ∃ r, a % 8 = r := ⟨_, rfl⟩
  rw [hr] at h8 ea ⊢
  match r, h8 with
  | 0, _ => exact ea 0 rfl
  | 1, _ => exact ea 1 rfl
  | 2, _ => exact ea 2 rfl
  | 3, _ => exact ea 3 rfl
  | 4, _ => exact ea 4 rfl
  | 5, _ => exact ea 5 rfl
  | 6, _ => exact ea 6 rfl
  | 7, _ => exact ea 7 rfl
/-- Where each bit of each number goes, and back. -/
def Places (k m : Nat) (pl : Nat → Nat → Nat) (nu bi : Nat → Nat) : Prop :=
  (∀ i j, i < m → j < k → nu (pl i j) = i ∧ bi (pl i j) = j ∧ pl i j < k * m) ∧ ∀ p, p < k * m → nu p < m ∧ bi p < k ∧ pl (nu p) (bi p) = p
theorem places_side (k m : Nat) : Places k m (fun i j => i * k + j) (fun p => p / k) (fun p => p % k) := by
  constructor
  · intro i j hi hj
    refine ⟨?_, ?_, place_lt hi hj⟩
    · show (i * k + j) / k = i
      rw [Nat.mul_comm, Nat.mul_add_div (by omega), Nat.div_eq_of_lt hj, Nat.add_zero]
    · show (i * k + j) % k = j
      rw [Nat.mul_comm, Nat.mul_add_mod, Nat.mod_eq_of_lt hj]
  · intro p hp
    have hk : 0 < k := Nat.pos_of_ne_zero (by rintro rfl; simp at hp)
    refine ⟨Nat.div_lt_of_lt_mul hp, Nat.mod_lt p hk, ?_⟩
    show p / k * k + p % k = p
    rw [Nat.mul_comm]; exact Nat.div_add_mod p k
theorem places_plane (k m : Nat) : Places k m (fun i j => j * m + i) (fun p => p % m) (fun p => p / m) := by
  constructor
  · intro i j hi hj
    refine ⟨?_, ?_, ?_⟩
    · show (j * m + i) % m = i
      rw [Nat.mul_comm, Nat.mul_add_mod, Nat.mod_eq_of_lt hi]
    · show (j * m + i) / m = j
      rw [Nat.mul_comm, Nat.mul_add_div (by omega), Nat.div_eq_of_lt hi, Nat.add_zero]
    · have := place_lt (w := m) (m := k) hj hi
      rw [Nat.mul_comm k m]; exact this
  · intro p hp
    have hm : 0 < m := Nat.pos_of_ne_zero (by rintro rfl; simp at hp)
    refine ⟨Nat.mod_lt p hm, Nat.div_lt_of_lt_mul (by rw [Nat.mul_comm]; exact hp), ?_⟩
    show p / m * m + p % m = p
    rw [Nat.mul_comm]; exact Nat.div_add_mod p m
/-- The bits that are set when all numbers ahead of i, and of i the bits ahead of j, are written. -/
def GB (f : Nat → Bool) (nu bi : Nat → Nat) (i j : Nat) : Nat → Bool := fun p => f p && decide (nu p < i ∨ nu p = i ∧ bi p < j)
section
variable {k m : Nat} {pl : Nat → Nat → Nat} {nu bi : Nat → Nat} {f : Nat → Bool}
theorem GB_zero (n x : Nat) : byF n (GB f nu bi 0 0) x = 0 := by
  rw [byF_congr (g := fun _ => false) (fun p _ => by unfold GB; simp)]
  unfold byF bv
  simp
theorem GB_next (h : Places k m pl nu bi) {i : Nat} (hi : i < m) (x : Nat) : byF (k * m) (GB f nu bi i k) x = byF (k * m) (GB f nu bi (i + 1) 0) x := byF_congr (fun p hp => by
  obtain ⟨h1, h2, h3⟩ := h.2 p hp
  unfold GB
  congr 1
  rw [decide_eq_decide]
  omega) x
theorem GB_end (h : Places k m pl nu bi) (x : Nat) : byF (k * m) (GB f nu bi m 0) x = byF (k * m) f x := byF_congr (fun p hp => by
  obtain ⟨h1, h2, h3⟩ := h.2 p hp
  unfold GB
  rw [decide_eq_true (Or.inl h1), Bool.and_true]) x
theorem GB_else (h : Places k m pl nu bi) {i j p : Nat} (hp : p < k * m) (he : p ≠ pl i j) : GB f nu bi i (j + 1) p = GB f nu bi i j p := by
  obtain ⟨h1, h2, h3⟩ := h.2 p hp
  unfold GB
  congr 1
  rw [decide_eq_decide]
  have : ¬ (nu p = i ∧ bi p = j) := by
    rintro ⟨rfl, rfl⟩
    exact he h3.symm
  omega
theorem GB_off (h : Places k m pl nu bi) {i j : Nat} (hf : f (pl i j) = false) (x : Nat) : byF (k * m) (GB f nu bi i (j + 1)) x = byF (k * m) (GB f nu bi i j) x := byF_congr (fun p hp => by
  by_cases he : p = pl i j
  · rw [he]; unfold GB; rw [hf]; rfl
  · exact GB_else h hp he) x
theorem GB_other (h : Places k m pl nu bi) {i j x : Nat} (hx : x ≠ pl i j / 8) : byF (k * m) (GB f nu bi i (j + 1)) x = byF (k * m) (GB f nu bi i j) x := byF_same (fun p hp he => GB_else h hp he) hx
theorem GB_on (h : Places k m pl nu bi) {i j : Nat} (hi : i < m) (hj : j < k) (hf : f (pl i j) = true) :
    bits BinOp.or IntKind.u8 (byF (k * m) (GB f nu bi i j) (pl i j / 8)) (2 ^ (7 - pl i j % 8)) = byF (k * m) (GB f nu bi i (j + 1)) (pl i j / 8) := by
  obtain ⟨h1, h2, h3⟩ := h.1 i j hi hj
  refine byF_set h3 ?_ ?_ (fun p hp he => GB_else h hp he)
  · unfold GB; rw [h1, h2]; simp
  · unfold GB; rw [h1, h2, hf]; simp
end
theorem or_none {x : Int} (h0 : 0 ≤ x) (h1 : x ≤ 255) : bits BinOp.or IntKind.u8 x 0 = x := by
  obtain ⟨n, rfl⟩ := Int.eq_ofNat_of_zero_le h0
  show IntKind.u8.wrap ((BitVec.ofInt 8 n ||| BitVec.ofInt 8 ((0 : Nat) : Int)).toNat : Int) = _
  rw [BitVec.toNat_or, BitVec.ofInt_natCast, BitVec.ofInt_natCast, BitVec.toNat_ofNat, BitVec.toNat_ofNat, Nat.mod_eq_of_lt (by omega), show 0 % 2 ^ 8 = 0 from rfl, Nat.or_zero]
  simp [IntKind.wrap, IntKind.bits, IntKind.signed]
  omega
/-- A bit as a number. -/
def b2 (v : Bool) : Int := if v then 1 else 0
theorem and_u8 {x : Int} (h0 : 0 ≤ x) (h1 : x ≤ 255) (s : Nat) : bits BinOp.and IntKind.u8 (x / 2 ^ s) 1 = b2 (bt x s) := by
  obtain ⟨n, hn⟩ := Int.eq_ofNat_of_zero_le (Int.ediv_nonneg h0 (show (0 : Int) ≤ 2 ^ s from Int.pow_nonneg (by decide)))
  have hle : x / 2 ^ s ≤ x := Int.ediv_le_self _ h0
  unfold bt b2
  rw [hn] at hle ⊢
  show IntKind.u8.wrap ((BitVec.ofInt 8 n &&& BitVec.ofInt 8 ((1 : Nat) : Int)).toNat : Int) = _
  rw [BitVec.toNat_and, BitVec.ofInt_natCast, BitVec.ofInt_natCast, BitVec.toNat_ofNat, BitVec.toNat_ofNat, Nat.mod_eq_of_lt (by omega), show 1 % 2 ^ 8 = 1 from rfl, Nat.and_one_is_mod]
  by_cases h : n % 2 = 1
  · rw [h, if_pos (by simp; omega)]; rfl
  · rw [show n % 2 = 0 by omega, if_neg (by simp; omega)]; rfl
theorem and_u64 {x : Int} (hx : U64 x) (s : Nat) : bits BinOp.and IntKind.u64 (x / 2 ^ s) 1 = b2 (bt x s) := by
  unfold U64 at hx
  have h0 := hx.1
  obtain ⟨n, hn⟩ := Int.eq_ofNat_of_zero_le (Int.ediv_nonneg h0 (show (0 : Int) ≤ 2 ^ s from Int.pow_nonneg (by decide)))
  have hle : x / 2 ^ s ≤ x := Int.ediv_le_self _ h0
  unfold bt b2
  rw [hn] at hle ⊢
  show IntKind.u64.wrap ((BitVec.ofInt 64 n &&& BitVec.ofInt 64 ((1 : Nat) : Int)).toNat : Int) = _
  rw [BitVec.toNat_and, BitVec.ofInt_natCast, BitVec.ofInt_natCast, BitVec.toNat_ofNat, BitVec.toNat_ofNat, Nat.mod_eq_of_lt (by omega), show 1 % 2 ^ 64 = 1 from rfl, Nat.and_one_is_mod]
  by_cases h : n % 2 = 1
  · rw [h, if_pos (by simp; omega)]; rfl
  · rw [show n % 2 = 0 by omega, if_neg (by simp; omega)]; rfl
theorem or_u64 {y : Int} (h0 : 0 ≤ y) (h1 : y ≤ 4294967296) (v : Bool) : bits BinOp.or IntKind.u64 (y * 2) (b2 v) = 2 * y + if v = true then 1 else 0 := by
  obtain ⟨n, rfl⟩ := Int.eq_ofNat_of_zero_le h0
  obtain ⟨t, ht, hv⟩ : ∃ t : Nat, t < 2 ∧ b2 v = t := by cases v; exact ⟨0, by decide, rfl⟩; exact ⟨1, by decide, rfl⟩
  have hv2 : (if v = true then 1 else 0 : Int) = t := hv
  rw [hv, hv2, show ((n : Int) * 2) = ((2 * n : Nat) : Int) by omega]
  show IntKind.u64.wrap ((BitVec.ofInt 64 _ ||| BitVec.ofInt 64 _).toNat : Int) = _
  rw [BitVec.toNat_or, BitVec.ofInt_natCast, BitVec.ofInt_natCast, BitVec.toNat_ofNat, BitVec.toNat_ofNat, Nat.mod_eq_of_lt (by omega), Nat.mod_eq_of_lt (by omega)]
  have e : 2 * n ||| t = 2 * n + t := by
    have := Nat.two_pow_add_eq_or_of_lt (i := 1) (b := t) ht n
    rw [Nat.pow_one] at this
    exact this.symm
  rw [e]
  simp [IntKind.wrap, IntKind.bits, IntKind.signed]
  omega
end Go.Proofs.Ythcigkcnknibgaa
/- The program's widths, bytes, single bits, and places as function values. -/
namespace Go.Proofs.Ythcigkcnknibgaa
open Go.RowKit
set_option maxHeartbeats 400000
set_option maxRecDepth 100000
set_option linter.unusedVariables false
theorem pl_Width (n : Int) (hn : U64 n) (w : World) :
    Calls Try.prog 81 #[.int .u64 n] w fun e w' => e = .returned (.int .i64 (wdt n : Int)) ∧ w = w' := by
  unfold U64 at hn
  have CL := hid (Try.bits_Len64 n w hn.1 hn.2)
  rw [show (Lib.bitLen n.toNat : Int) = (wdt n : Int) from rfl] at CL
  obtain ⟨R, hR⟩ : ∃ R, wdt n = R := ⟨_, rfl⟩
  rw [hR] at CL ⊢
  clear hR
  go_enter Try.func81, Try.ntmps81
  go_wp2_with fail
  refine CL.out.mono ?_
  rintro _ _ ⟨rfl, rfl⟩
  go_wp2_with fail
  go_ret
  exact ⟨rfl, rfl⟩
theorem pl_Bytes (wd many : Int) (hw : I64 wd) (hm : I64 many) (w : World) :
    Calls Try.prog 91 #[.int .i64 wd, .int .i64 many] w fun e w' => e = .returned (.tuple #[.int .i64 (bysV wd many), .int .i64 (bysE wd many)]) ∧ w = w' := by
  unfold I64 at hw hm
  unfold bysV bysE
  by_cases h1 : wd < 0 ∨ 32 < wd ∨ many < 0
  · rw [if_pos h1, if_neg (by decide)]
    by_cases a : wd < 0
    · clear h1
      go_enter Try.func91, Try.ntmps91
      go_wp2_with fail
      go_ret2
      exact ⟨rfl, rfl⟩
    · by_cases b : 32 < wd
      · clear h1
        go_enter Try.func91, Try.ntmps91
        go_wp2_with fail
        go_ret2
        exact ⟨rfl, rfl⟩
      · have c : many < 0 := by omega
        clear h1
        go_enter Try.func91, Try.ntmps91
        go_wp2_with fail
        go_ret2
        exact ⟨rfl, rfl⟩
  · rw [if_neg h1]
    have a : 0 ≤ wd := by omega
    have b : wd ≤ 32 := by omega
    have c : 0 ≤ many := by omega
    by_cases h2 : 4096 < many
    · rw [if_pos h2, if_neg (by decide)]
      clear h1
      go_enter Try.func91, Try.ntmps91
      go_wp2_with fail
      go_ret2
      exact ⟨rfl, rfl⟩
    · rw [if_neg h2, if_pos rfl]
      have hp : 0 ≤ wd * many ∧ wd * many ≤ 131072 := by
        have h3 := Int.mul_nonneg a c
        have h4 := Int.mul_le_mul b (show many ≤ 4096 by omega) c (by decide)
        omega
      obtain ⟨q, hq⟩ : ∃ q, wd * many = q := ⟨_, rfl⟩
      rw [hq] at hp ⊢
      have e8 : q + 8 - 1 = q + 7 := by omega
      clear h1
      go_enter Try.func91, Try.ntmps91
      go_wp2_with fail
      go_ret2
      exact ⟨rfl, rfl⟩
theorem pl_shift (p : Nat) (hp : p ≤ 1000000) (w : World) :
    Calls Try.prog 93 #[.int .i64 (p : Int)] w fun e w' => e = .returned (.int .i64 ((7 - p % 8 : Nat) : Int)) ∧ w = w' := by
  obtain ⟨s, hs⟩ : ∃ s, 7 - p % 8 = s := ⟨_, rfl⟩
  rw [hs]
  have e1 : (7 : Int) - (p : Int) % 8 = (s : Int) := by omega
  clear hs
  go_enter Try.func93, Try.ntmps93
  go_wp2_with fail
  go_ret
  exact ⟨rfl, rfl⟩
theorem tlB_no {n : Nat} {b : List Int} {p : Nat} (h : fB b p = true) (h1 : n ≤ p) (h2 : p < 8 * b.length) : tlB n b = false := by
  cases ht : tlB n b with
  | false => rfl
  | true =>
    have := (tlB_iff n b).1 ht p h1 h2
    rw [h] at this
    exact this
theorem side_cl {p i j k P : Nat} {w : World} (hc : w.cell? ⟨p, 0, none⟩ = some (.int .i64 (k : Int))) (hP : i * k + j = P) (h1 : P ≤ 1000000) :
    Calls Try.prog 98 (#[.int .i64 (i : Int), .int .i64 (j : Int)] ++ #[.pointer (some ⟨p, 0, none⟩)]) w fun e w' => e = .returned (.int .i64 (P : Int)) ∧ w = w' := by
  obtain ⟨q, hq⟩ : ∃ q, i * k = q := ⟨_, rfl⟩
  have hm : (i : Int) * (k : Int) = (q : Int) := by rw [← hq, Int.natCast_mul]
  have hs : (q : Int) + (j : Int) = (P : Int) := by omega
  clear hq hP
  go_enter Try.func98, Try.ntmps98
  go_wp2_with fail
  go_ret
  exact ⟨rfl, rfl⟩
theorem plane_cl {p i j m P : Nat} {w : World} (hc : w.cell? ⟨p, 0, none⟩ = some (.int .i64 (m : Int))) (hP : j * m + i = P) (h1 : P ≤ 1000000) :
    Calls Try.prog 94 (#[.int .i64 (i : Int), .int .i64 (j : Int)] ++ #[.pointer (some ⟨p, 0, none⟩)]) w fun e w' => e = .returned (.int .i64 (P : Int)) ∧ w = w' := by
  obtain ⟨q, hq⟩ : ∃ q, j * m = q := ⟨_, rfl⟩
  have hm : (j : Int) * (m : Int) = (q : Int) := by rw [← hq, Int.natCast_mul]
  have hs : (q : Int) + (i : Int) = (P : Int) := by omega
  clear hq hP
  go_enter Try.func94, Try.ntmps94
  go_wp2_with fail
  go_ret
  exact ⟨rfl, rfl⟩
theorem width_cl {p : Nat} {wd x : Int} {w : World} (hc : w.cell? ⟨p, 0, none⟩ = some (.int .i64 wd)) (ux : U64 x) :
    Calls Try.prog 92 (#[.int .u64 x] ++ #[.pointer (some ⟨p, 0, none⟩)]) w fun e w' => e = .returned (.bool (decide (wd < (wdt x : Int)))) ∧ ∃ n, w' = w.drewN n := by
  have CW := hid (fun W => pl_Width x ux W)
  obtain ⟨z, hz⟩ : ∃ z, wdt x = z := ⟨_, rfl⟩
  rw [hz] at CW ⊢
  clear hz
  go_enter Try.func92, Try.ntmps92
  go_wp2_with fail
  go_quiet ((go_at_call 81; exact quietL CW.out _))
  go_wp2_with fail
  go_ret
  exact ⟨rfl, _, rfl⟩
/-- The place of the first that is so, or -1. -/
def fidx (P : Int → Bool) (l : List Int) : Int := if l.any P = true then (l.findIdx P : Int) else -1
theorem fidx_at {P : Int → Bool} {l : List Int} {k : Nat} {x : Int} (hx : l[k]? = some x) (hp : P x = true) (h : ∀ y ∈ l.take k, P y = false) : fidx P l = k ∧ l.any P = true := by
  obtain ⟨hk, rfl⟩ := List.getElem?_eq_some_iff.1 hx
  have ha : l.any P = true := List.any_eq_true.2 ⟨l[k], List.getElem_mem hk, hp⟩
  refine ⟨?_, ha⟩
  unfold fidx
  rw [if_pos ha, (List.findIdx_eq hk).2 ⟨hp, fun j hj => h _ (by rw [List.mem_take_iff_getElem]; exact ⟨j, by omega, rfl⟩)⟩]
theorem fidx_no {P : Int → Bool} {l : List Int} (h : ∀ y ∈ l, P y = false) : fidx P l = -1 ∧ l.any P = false := by
  have ha : l.any P = false := by rw [List.any_eq_false]; intro y hy; rw [h y hy]; decide
  refine ⟨?_, ha⟩
  unfold fidx
  rw [ha]; rfl
theorem index_any {A : Option Addr} {c : Nat} (K : FuncId) (caps : Array Value) (l : List Int) (hl : l.length ≤ 100000) (P : Int → Bool) (w : World)
   (hK : ∀ (args : Array Value) (W : World), (callFunc K args).run Try.prog W = .ok (.enter K args) W) {B : Nat} (ra : Rd (Value.int .u64) w B A l)
   (H : ∀ x ∈ l, ∀ n, Calls Try.prog K (#[.int .u64 x] ++ caps) (w.drewN n) fun e w' => e = .returned (.bool (P x)) ∧ ∃ m, w' = (w.drewN n).drewN m) :
    Calls Try.prog 90 #[.slice A l.length c, .func (.func K) #[] caps] w fun e w' => e = .returned (.int .i64 (fidx P l)) ∧ ∃ n, w' = w.drewN n := by
  have HH := hid H
  have RA := hid ra
  have HF : Hid (∀ k x, l[k]? = some x → P x = true → (∀ y ∈ l.take k, P y = false) → fidx P l = k) := hid (fun k x h1 h2 h3 => (fidx_at h1 h2 h3).1)
  have HG : Hid ((∀ y ∈ l, P y = false) → fidx P l = -1) := hid (fun h => (fidx_no h).1)
  obtain ⟨R, hR⟩ : ∃ R, fidx P l = R := ⟨_, rfl⟩
  rw [hR] at HF HG ⊢
  obtain ⟨N, hN⟩ : ∃ N, l.length = N := ⟨_, rfl⟩
  have HN := hid hN
  rw [hN] at hl ⊢
  clear hR hN H ra
  go_enter Try.func90, Try.ntmps90
  go_wp2_with fail
  go_loopw [5, 8] (fun i0 i wr => ∃ k : Nat, k ≤ N ∧ i = .int .i64 k ∧ (∀ y ∈ l.take k, P y = false) ∧ ∃ m, wr = w.drewN m) (fun _ i _ => N - (intOf i).toNat)
  case atStart => exact ⟨0, by omega, rfl, by simp, 0, rfl⟩
  case round =>
    obtain ⟨k, hk, rfl, hs, m, rfl⟩ := hrel
    have HS := hid hs
    clear hs
    by_cases hlt : k < N
    · obtain ⟨b1, o1, x, rfl, l1, ex, c1⟩ := RA.out.at_ (k := k) (by rw [HN.out]; exact hlt)
      have C := hid (HH.out x (List.mem_of_getElem? ex) m)
      have hFk := HF.out k x ex
      obtain ⟨v, hv⟩ : ∃ v, P x = v := ⟨_, rfl⟩
      rw [hv] at C hFk
      have HV := hid hv
      have HE := hid ex
      clear hv ex
      cases v with
      | true =>
        have hR := hFk rfl HS.out
        subst hR
        go_wp2_with fail
        refine C.out.mono ?_
        rintro _ _ ⟨rfl, m2, rfl⟩
        go_wp2_with fail
        go_ret
        exact ⟨rfl, m + m2, by simp⟩
      | false =>
        clear hFk
        go_wp2_with fail
        refine C.out.mono ?_
        rintro _ _ ⟨rfl, m2, rfl⟩
        go_wp2_with fail
        go_roundw
        case rel =>
          refine ⟨k + 1, by omega, by go_num, ?_, m + m2, by simp⟩
          intro y hy
          rw [List.take_add_one, HE.out] at hy
          rcases List.mem_append.1 hy with h | h
          · exact HS.out y h
          · simp at h
            rw [h]; exact HV.out
        case measure => simp [intOf]; omega
    · have hR : R = -1 := HG.out (fun y hy => HS.out y (by rw [List.take_of_length_le (by rw [HN.out]; omega)]; exact hy))
      subst hR
      go_wp2_with fail
      go_ret
      exact ⟨rfl, _, rfl⟩
theorem contains_any {A : Option Addr} {c : Nat} (K : FuncId) (caps : Array Value) (l : List Int) (hl : l.length ≤ 100000) (P : Int → Bool) (w : World)
   (hK : ∀ (args : Array Value) (W : World), (callFunc K args).run Try.prog W = .ok (.enter K args) W) {B : Nat} (ra : Rd (Value.int .u64) w B A l)
   (H : ∀ x ∈ l, ∀ n, Calls Try.prog K (#[.int .u64 x] ++ caps) (w.drewN n) fun e w' => e = .returned (.bool (P x)) ∧ ∃ m, w' = (w.drewN n).drewN m) :
    Calls Try.prog 79 #[.slice A l.length c, .func (.func K) #[] caps] w fun e w' => e = .returned (.bool (l.any P)) ∧ ∃ n, w' = w.drewN n := by
  have C := hid (index_any (A := A) (c := c) K caps l hl P w hK ra H)
  have hge : decide (0 ≤ fidx P l) = l.any P := by
    unfold fidx
    by_cases h : l.any P = true
    · rw [if_pos h, h]; simp
    · rw [if_neg h]
      cases hb : l.any P with
      | true => exact absurd hb h
      | false => rfl
  obtain ⟨R, hR⟩ : ∃ R, fidx P l = R := ⟨_, rfl⟩
  obtain ⟨v, hv⟩ : ∃ v, l.any P = v := ⟨_, rfl⟩
  rw [hR, hv] at hge
  rw [hR] at C
  rw [hv]
  clear hR hv H ra
  go_enter Try.func79, Try.ntmps79
  go_wp2_with fail
  refine C.out.mono ?_
  rintro _ _ ⟨rfl, m, rfl⟩
  go_wp2_with fail
  go_ret
  exact ⟨rfl, _, rfl⟩
end Go.Proofs.Ythcigkcnknibgaa
/- A block of the call's own that holds these values, cell by cell: structs in boxes; what stores and calls leave of them. -/
namespace Go.Proofs.Ythcigkcnknibgaa
open Go.RowKit
set_option maxRecDepth 100000
set_option linter.unusedVariables false
/-- The cells of a block, none of them frozen. -/
def BoxL (w : World) (g : Nat) (vs : List Value) : Prop := ∀ (k : Nat) (v : Value), vs[k]? = some v → w.cell? ⟨g, k, none⟩ = some v ∧ w.frozen? ⟨g, k, none⟩ = false
section
variable {w w' : World} {g B : Nat} {vs : List Value}
theorem BoxL.below (h : BoxL w g vs) (hb : Below B w w') (hg : g < B) : BoxL w' g vs := fun k v hv =>
  ⟨(hb.cell (p := ⟨g, k, none⟩) hg).trans (h k v hv).1, (hb.frozen (p := ⟨g, k, none⟩) hg).trans (h k v hv).2⟩
theorem BoxL.new (w : World) (vs : List Value) (t : TypeId) : BoxL (w.alloc (.cells vs.toArray t)) w.heap.size vs := fun k v hv => by
  have hn := heap_alloc_new w (.cells vs.toArray t)
  refine ⟨?_, ?_⟩
  · rw [cell_of_row _ _ k _ t (0, 0) hn]
    simp [hv]
  · unfold World.frozen?
    simp only [hn]
    simp
theorem BoxL.one (h : BoxL w g vs) {k : Nat} {v : Value} (hv : vs[k]? = some v) (u : Value) : BoxL (w.setCell ⟨g, k, none⟩ u) g (vs.set k u) := fun j x hx => by
  refine ⟨?_, ?_⟩
  · by_cases e : j = k
    · subst e
      rw [List.getElem?_set_self (List.getElem?_eq_some_iff.1 hv).1] at hx
      obtain rfl : u = x := Option.some.inj hx
      exact World.cell?_setCell_same _ _ _ (h j v hv).1
    · rw [List.getElem?_set_ne (by omega)] at hx
      rw [World.cell?_setCell_other _ _ _ _ (by intro e'; injection e' with _ e2; exact e e2.symm)]
      exact (h j x hx).1
  · rw [World.frozen?_setCell]
    by_cases e : j = k
    · subst e; exact (h j v hv).2
    · rw [List.getElem?_set_ne (by omega)] at hx
      exact (h j x hx).2
theorem BoxL.other (h : BoxL w g vs) {p : Addr} (hp : p.block ≠ g) (u : Value) : BoxL (w.setCell p u) g vs := fun j x hx => by
  refine ⟨?_, ?_⟩
  · rw [World.cell?_setCell_other _ _ _ _ (by rintro rfl; exact hp rfl)]
    exact (h j x hx).1
  · rw [World.frozen?_setCell]; exact (h j x hx).2
theorem BoxL.drew (h : BoxL w g vs) : BoxL w.drew g vs := h
theorem BoxL.lt (h : BoxL w g vs) (h0 : 0 < vs.length) : g < w.heap.size := lt_of_cell (h 0 _ (List.getElem?_eq_getElem h0)).1
/-- The facts of two, eight, eleven cells. -/
theorem BoxL.two {a b : Value} (h : BoxL w g [a, b]) : w.cell? ⟨g, 0, none⟩ = some a ∧ w.cell? ⟨g, 1, none⟩ = some b ∧ w.frozen? ⟨g, 0, none⟩ = false ∧ w.frozen? ⟨g, 1, none⟩ = false :=
  ⟨(h 0 a rfl).1, (h 1 b rfl).1, (h 0 a rfl).2, (h 1 b rfl).2⟩
theorem BoxL.eight {a b c d e f i j : Value} (h : BoxL w g [a, b, c, d, e, f, i, j]) :
    (w.cell? ⟨g, 0, none⟩ = some a ∧ w.cell? ⟨g, 1, none⟩ = some b ∧ w.cell? ⟨g, 2, none⟩ = some c ∧ w.cell? ⟨g, 3, none⟩ = some d ∧ w.cell? ⟨g, 4, none⟩ = some e ∧ w.cell? ⟨g, 5, none⟩ = some f ∧ w.cell? ⟨g, 6, none⟩ = some i ∧ w.cell? ⟨g, 7, none⟩ = some j) ∧
    (w.frozen? ⟨g, 0, none⟩ = false ∧ w.frozen? ⟨g, 1, none⟩ = false ∧ w.frozen? ⟨g, 2, none⟩ = false ∧ w.frozen? ⟨g, 3, none⟩ = false ∧ w.frozen? ⟨g, 4, none⟩ = false ∧ w.frozen? ⟨g, 5, none⟩ = false ∧ w.frozen? ⟨g, 6, none⟩ = false ∧ w.frozen? ⟨g, 7, none⟩ = false) :=
  ⟨⟨(h 0 a rfl).1, (h 1 b rfl).1, (h 2 c rfl).1, (h 3 d rfl).1, (h 4 e rfl).1, (h 5 f rfl).1, (h 6 i rfl).1, (h 7 j rfl).1⟩, (h 0 a rfl).2, (h 1 b rfl).2, (h 2 c rfl).2, (h 3 d rfl).2, (h 4 e rfl).2, (h 5 f rfl).2, (h 6 i rfl).2, (h 7 j rfl).2⟩
theorem BoxL.cells11 {a b c d e f i j k l m : Value} (h : BoxL w g [a, b, c, d, e, f, i, j, k, l, m]) :
    w.cell? ⟨g, 0, none⟩ = some a ∧ w.cell? ⟨g, 1, none⟩ = some b ∧ w.cell? ⟨g, 2, none⟩ = some c ∧ w.cell? ⟨g, 3, none⟩ = some d ∧ w.cell? ⟨g, 4, none⟩ = some e ∧ w.cell? ⟨g, 5, none⟩ = some f ∧ w.cell? ⟨g, 6, none⟩ = some i ∧ w.cell? ⟨g, 7, none⟩ = some j ∧ w.cell? ⟨g, 8, none⟩ = some k ∧ w.cell? ⟨g, 9, none⟩ = some l ∧ w.cell? ⟨g, 10, none⟩ = some m :=
  ⟨(h 0 a rfl).1, (h 1 b rfl).1, (h 2 c rfl).1, (h 3 d rfl).1, (h 4 e rfl).1, (h 5 f rfl).1, (h 6 i rfl).1, (h 7 j rfl).1, (h 8 k rfl).1, (h 9 l rfl).1, (h 10 m rfl).1⟩
/-- Two cells laid at once; eight cells laid at once. -/
theorem BoxL.set2 {a b : Value} (h : BoxL w g [a, b]) (a' b' : Value) : BoxL ((w.setCell ⟨g, 0, none⟩ a').setCell ⟨g, 1, none⟩ b') g [a', b'] :=
  (h.one (k := 0) rfl a').one (k := 1) (v := b) rfl b'
theorem BoxL.other2 (h : BoxL w g vs) {g' : Nat} (hg : g' ≠ g) (a' b' : Value) : BoxL ((w.setCell ⟨g', 0, none⟩ a').setCell ⟨g', 1, none⟩ b') g vs :=
  (h.other (p := ⟨g', 0, none⟩) hg a').other (p := ⟨g', 1, none⟩) hg b'
end
end Go.Proofs.Ythcigkcnknibgaa
/- What follows of frames' texts: read back, written again, apart, how long. No program in sight. -/
namespace Go.Proofs.Ythcigkcnknibgaa
set_option maxRecDepth 100000
set_option linter.unusedVariables false
theorem sealed_own {b : List Int} (ub : U8s b) : sealedB (b ++ le4 (sumN b)) = true := by
  have hl : (b ++ le4 (sumN b)).length = b.length + 4 := by rw [List.length_append, le4_len]
  rw [sealed_iff (ub.app (le4_bytes _)) (by omega), off_iff ub (sumN_lt b)]
theorem open_seal {b : List Int} (ub : U8s b) (hb : b.length ≤ 65532) : openV (sealV b) = b ∧ openE (sealV b) = 0 := by
  have e : sealV b = b ++ le4 (sumN b) := if_neg (by omega)
  rw [e]
  have hl : (b ++ le4 (sumN b)).length = b.length + 4 := by rw [List.length_append, le4_len]
  have hs := sealed_own ub
  unfold openV openE
  rw [hs, hl, if_neg (by simp only [Bool.true_eq_false, or_false]; omega), if_neg (by omega), if_neg (by omega), if_neg (by decide)]
  refine ⟨?_, rfl⟩
  rw [show b.length + 4 - 4 = b.length by omega, List.take_left]
theorem seal_open {b : List Int} (h : openE b = 0) : sealV (openV b) = b ∧ sealE (openV b) = 0 ∧ (openV b).length + 4 = b.length ∧ b.length ≤ 65536 := by
  unfold openE at h
  split at h
  · simp at h
  · rename_i h1
    split at h
    · simp at h
    · rename_i h2
      split at h
      · simp at h
      · rename_i h3
        have hs : sealedB b = true := by cases hb : sealedB b with
          | true => rfl
          | false => exact absurd hb h3
        have ho : openV b = b.take (b.length - 4) := by
          unfold openV
          rw [if_neg]
          rintro (h | h | h)
          · exact h1 h
          · exact h2 h
          · exact h3 h
        have hl : (openV b).length + 4 = b.length := by rw [ho, List.length_take]; omega
        unfold sealedB sealedB.eqL at hs
        rw [decide_eq_true_eq] at hs
        refine ⟨?_, ?_, hl, by omega⟩
        · unfold sealV
          rw [if_neg (by omega), ho, ← hs, List.take_append_drop]
        · unfold sealE
          rw [if_neg (by omega)]
theorem openV_u8 {l : List Int} (hl : U8s l) : U8s (openV l) := by
  unfold openV
  split
  · intro x hx; simp at hx
  · exact hl.take _
theorem sealV_u8 {l : List Int} (hl : U8s l) : U8s (sealV l) := by
  unfold sealV
  split
  · intro x hx; simp at hx
  · exact hl.app (le4_bytes _)
theorem sgnd_u8 {l : List Int} (h : ∀ x ∈ l, I64 x) : U8s (sgnd l) := encs_u8 (zigs_u64 h)
theorem sgnd_len {l : List Int} (h : ∀ x ∈ l, I64 x) : (sgnd l).length ≤ 10 * l.length := by
  have := encs_len (zigs_u64 h)
  rwa [List.length_map] at this
theorem U8s.cons {x : Int} {l : List Int} (h0 : 0 ≤ x) (h1 : x ≤ 255) (h : U8s l) : U8s (x :: l) := fun y hy => by
  rcases List.mem_cons.1 hy with rfl | hy
  · exact ⟨h0, h1⟩
  · exact h y hy
theorem body_u8 {s : SentV} (hm : mayP s) (hw : wfS s) : U8s (bodyL s) := by
  obtain ⟨sch, dim, L, V, scale, wide, lev, neg⟩ := s
  obtain ⟨hd1, hd4, hc⟩ := hm
  obtain ⟨w1, w2, w3, w4, w5, w6, w7⟩ := hw
  simp only at hd1 hd4 hc w1 w2 w3 w4 w5 w6 w7
  have ud := lebI_u8 dim (by omega)
  unfold bodyL tailL
  simp only
  rcases hc with ⟨rfl, rfl, h2, rfl, rfl, rfl, rfl⟩ | ⟨rfl, h1, h2, rfl, rfl, rfl, rfl⟩ | ⟨rfl, h1, h2, h3, h4, rfl, rfl, h7, h8⟩ | ⟨rfl, rfl, rfl, rfl, rfl, h5, h6⟩
  · exact .cons (by decide) (by decide) (ud.app (sgnd_u8 w4))
  · exact .cons (by decide) (by decide) (ud.app ((pixV_u8 _ _).app (sgnd_u8 w4)))
  · exact .cons (by decide) (by decide) (ud.app ((lebI_u8 scale h7).app ((U8s.cons (by omega) (by omega) (wevV_bytes _ _)).app (sgnV_bytes _))))
  · exact .cons (by decide) (by decide) (ud.app ((lebI_u8 scale h5).app (sgnV_bytes _)))
theorem body_len {s : SentV} {n : Nat} (hm : mayP s) (hw : wfS s) (hV : s.V.length ≤ n) : (bodyL s).length ≤ 45200 + 10 * n := by
  obtain ⟨sch, dim, L, V, scale, wide, lev, neg⟩ := s
  obtain ⟨hd1, hd4, hc⟩ := hm
  obtain ⟨w1, w2, w3, w4, w5, w6, w7⟩ := hw
  simp only at hd1 hd4 hc w1 w2 w3 w4 w5 w6 w7 hV
  have ld := lebI_ten (n := dim) (by unfold U64; omega)
  have lv := sgnd_len w4
  have lp := pixV_len dim L
  unfold bodyL tailL
  simp only [List.length_cons, List.length_append]
  rcases hc with ⟨rfl, rfl, h2, rfl, rfl, rfl, rfl⟩ | ⟨rfl, h1, h2, rfl, rfl, rfl, rfl⟩ | ⟨rfl, h1, h2, h3, h4, rfl, rfl, h7, h8⟩ | ⟨rfl, rfl, rfl, rfl, rfl, h5, h6⟩
  · rw [if_pos rfl]; omega
  · rw [if_neg (by decide), if_pos rfl, List.length_append]; omega
  · rw [if_neg (by decide), if_neg (by decide), if_pos rfl]
    have ls := lebI_ten (n := scale) (by unfold I64 at w5; unfold U64; omega)
    have hn := sgnV_len (l := neg) (by omega)
    have hb : bysE wide lev.length = 0 := by unfold bysE; rw [if_neg (by omega), if_neg (by omega)]
    have hm : mayE wide lev = 0 := by unfold mayE; rw [if_pos hb, if_pos h4]
    have hwl := ((may_same wide lev).2 hm).2
    have h9 : wide.toNat * lev.length ≤ 8 * 4096 := Nat.mul_le_mul (by omega) (by omega)
    simp only [List.length_cons, List.length_append]
    omega
  · rw [if_neg (by decide), if_neg (by decide), if_neg (by decide)]
    have ls := lebI_ten (n := scale) (by unfold I64 at w5; unfold U64; omega)
    have hn := sgnV_len (l := neg) (by omega)
    simp only [List.length_append, List.length_nil]
    omega
theorem text_u8 {f : FrameV} (hc : chkF f = 0) (hw : wfF f) : U8s (textL f) := by
  obtain ⟨h1, h2, h3, h4, h5⟩ := chkF_ok.1 hc
  have hk : f.knd = 1 ∨ f.knd = 2 := by rcases h5 with h | h; exact Or.inl h.1; exact Or.inr h.1
  unfold textL
  refine .cons (by decide) (by decide) (.cons (by omega) (by omega) ((lebI_u8 _ h1).app ((lebI_u8 _ h3).app ?_)))
  rcases h5 with ⟨e, hm⟩ | ⟨e, hz⟩
  · rw [if_pos e]; exact body_u8 (mayB_iff.1 hm) hw.2.2.2
  · rw [if_neg (by omega)]; intro x hx; simp at hx
theorem text_len {f : FrameV} {n : Nat} (hc : chkF f = 0) (hw : wfF f) (hV : f.S.V.length ≤ n) : (textL f).length ≤ 45300 + 10 * n := by
  obtain ⟨h1, h2, h3, h4, h5⟩ := chkF_ok.1 hc
  have lf := lebI_ten (n := f.frm) (by unfold U64; omega)
  have ls := lebI_ten (n := f.stp) (by unfold U64; omega)
  unfold textL
  simp only [List.length_cons, List.length_append]
  rcases h5 with ⟨e, hm⟩ | ⟨e, hz⟩
  · rw [if_pos e]
    have := body_len (mayB_iff.1 hm) hw.2.2.2 hV
    omega
  · rw [if_neg (by omega)]
    simp only [List.length_nil]
    omega
/-- Written, and read. -/
theorem wrt_ok {f : FrameV} (hw : wfF f) (hV : f.S.V.length ≤ 1000) : (wrtE f = 0 ↔ chkF f = 0) ∧ (wrtE f = 0 ∨ wrtE f = 1) := by
  unfold wrtE
  by_cases hc : chkF f = 0
  · have := text_len hc hw hV
    have hs : sealE (textL f) = 0 := if_neg (by omega)
    rw [if_pos hc, hs]
    simp [hc]
  · rw [if_neg hc]
    simp [hc]
theorem rd_wrt {f : FrameV} (hw : wfF f) (hV : f.S.V.length ≤ 1000) (h : wrtE f = 0) : rdR (wrtV f) = (f, 0) ∧ U8s (wrtV f) ∧ (wrtV f).length = (textL f).length + 4 ∧ off (wrtV f) = 0 := by
  have hc := (wrt_ok hw hV).1.1 h
  have hl := text_len hc hw hV
  have hu := text_u8 hc hw
  have e : wrtV f = sealV (textL f) := if_pos hc
  have e2 : sealV (textL f) = textL f ++ le4 (sumN (textL f)) := if_neg (by omega)
  obtain ⟨h1, h2⟩ := open_seal hu (by omega)
  refine ⟨?_, by rw [e]; exact sealV_u8 hu, by rw [e, e2, List.length_append, le4_len], ?_⟩
  · unfold rdR
    rw [e, h2, if_neg (by decide), h1]
    exact read1_put hc hw
  · rw [e, e2]
    exact (off_iff hu (sumN_lt _)).2 rfl
theorem wrt_rd {b : List Int} {f : FrameV} (ub : U8s b) (h : rdR b = (f, 0)) : chkF f = 0 ∧ wfF f ∧ wrtV f = b ∧ wrtE f = 0 := by
  unfold rdR at h
  by_cases he : openE b = 0
  · rw [if_neg (by rw [he]; decide)] at h
    obtain ⟨hc, hw, ht⟩ := read1_back (openV_u8 ub) h
    obtain ⟨h1, h2, _, _⟩ := seal_open he
    refine ⟨hc, hw, ?_, ?_⟩
    · unfold wrtV; rw [if_pos hc, ht, h1]
    · unfold wrtE; rw [if_pos hc, ht, h2]
  · rw [if_pos he] at h
    simp only [Prod.mk.injEq] at h
    exact absurd h.2 he
theorem rd_bad {b : List Int} (h : (rdR b).2 ≠ 0) : (rdR b).1 = zeroF := by
  unfold rdR at h ⊢
  by_cases he : openE b = 0
  · rw [if_neg (by rw [he]; decide)] at h ⊢
    rw [read1_bad h]
  · rw [if_pos he]
theorem rd_cases (b : List Int) : (rdR b).2 = openE b ∨ openE b = 0 ∧ (rdR b).2 = 6 := by
  unfold rdR
  by_cases he : openE b = 0
  · rw [if_neg (by rw [he]; decide)]
    by_cases h : (read1 (openV b)).2 = 0
    · left; rw [h, he]
    · right; rw [read1_bad h]; exact ⟨he, rfl⟩
  · rw [if_pos he]
    left; rfl
theorem apart {f g : FrameV} (hf : wfF f) (hg : wfF g) (lf : f.S.V.length ≤ 1000) (lg : g.S.V.length ≤ 1000) (h1 : wrtE f = 0) (h2 : wrtE g = 0) : eqB (wrtV f) (wrtV g) = sameF f g := by
  have a := (rd_wrt hf lf h1).1
  have b := (rd_wrt hg lg h2).1
  by_cases e : f = g
  · subst e
    rw [eqB_self, sameF_self]
  · have hs : sameF f g = false := by
      cases h : sameF f g with
      | false => rfl
      | true => exact absurd (sameF_iff.1 h) e
    rw [hs]
    unfold eqB
    rw [decide_eq_false_iff_not]
    intro he
    rw [he, b] at a
    simp only [Prod.mk.injEq, and_true] at a
    exact e a.symm
/-- How long its lists are, if it may be; what is read. -/
theorem may_len {s : SentV} (h : mayP s) : s.L.length ≤ 4096 ∧ s.V.length ≤ 4096 ∧ s.lev.length ≤ 4096 ∧ s.neg.length ≤ 4096 := by
  obtain ⟨sch, dim, L, V, scale, wide, lev, neg⟩ := s
  obtain ⟨hd1, hd4, hc⟩ := h
  simp only at hd1 hd4 hc ⊢
  rcases hc with ⟨_, rfl, h2, _, rfl, _, rfl⟩ | ⟨_, h1, h2, _, rfl, _, rfl⟩ | ⟨_, _, _, h3, _, rfl, rfl, _, h8⟩ | ⟨_, rfl, rfl, _, rfl, _, h6⟩
  · simp; omega
  · have := plc_le (chk_ok.1 h1)
    simp; omega
  · simp; omega
  · simp; omega
theorem chk_len {f : FrameV} (h : chkF f = 0) : f.S.L.length ≤ 4096 ∧ f.S.V.length ≤ 4096 ∧ f.S.lev.length ≤ 4096 ∧ f.S.neg.length ≤ 4096 := by
  obtain ⟨_, _, _, _, h5⟩ := chkF_ok.1 h
  rcases h5 with ⟨_, hm⟩ | ⟨_, hz⟩
  · exact may_len (mayB_iff.1 hm)
  · rw [sameS_iff.1 hz]; simp [zeroS]
theorem rd_all {b : List Int} (ub : U8s b) : wfF (rdR b).1 ∧ (rdR b).1.S.L.length ≤ 4096 ∧ (rdR b).1.S.V.length ≤ 4096 ∧ (rdR b).1.S.lev.length ≤ 4096 ∧ (rdR b).1.S.neg.length ≤ 4096 := by
  by_cases h : (rdR b).2 = 0
  · obtain ⟨f, e, hf⟩ : ∃ f e, rdR b = (f, e) := ⟨_, _, rfl⟩
    rw [hf] at h ⊢
    simp only at h
    subst h
    obtain ⟨hc, hw, _, _⟩ := wrt_rd ub hf
    exact ⟨hw, chk_len hc⟩
  · rw [rd_bad h]
    exact ⟨⟨by decide, by decide, by decide, wf_zeroS⟩, by simp [zeroF, zeroS]⟩
/-- An acknowledgement. -/
def ackF (frm stp : Int) : FrameV := ⟨2, frm, stp, zeroS⟩
theorem ack_wf {frm stp : Int} (h1 : I64 frm) (h2 : I64 stp) : wfF (ackF frm stp) := ⟨show I64 2 by decide, h1, h2, wf_zeroS⟩
theorem ack_chk {frm stp : Int} : chkF (ackF frm stp) = 0 ↔ (0 ≤ frm ∧ frm < 64 ∧ 0 ≤ stp ∧ stp ≤ 1073741824) := by
  rw [chkF_ok]
  unfold frmP ackF
  simp only
  constructor
  · rintro ⟨h1, h2, h3, h4, _⟩; exact ⟨h1, h2, h3, h4⟩
  · rintro ⟨h1, h2, h3, h4⟩; exact ⟨h1, h2, h3, h4, by simp [sameS_iff]⟩
theorem ack_text (frm stp : Int) : textL (ackF frm stp) = 1 :: 2 :: encs [frm, stp] := by
  unfold textL ackF
  simp only
  rw [if_neg (by decide), List.append_nil, encs_cons, encs_one]
/-- Bent. -/
theorem no_frm {f : FrameV} : chkF { f with frm := 64 } = 1 := chkF_no (fun h => by have := h.2.1; simp at this)
theorem no_knd {f : FrameV} (h : chkF f = 0) : chkF { f with knd := 3 - f.knd } = 1 := chkF_no (fun h2 => by
  obtain ⟨_, _, _, _, h5⟩ := chkF_ok.1 h
  obtain ⟨_, _, _, _, h6⟩ := h2
  simp only at h6
  have key : mayB f.S = true → sameS f.S zeroS = true → False := fun a b => by
    rw [sameS_iff.1 b] at a
    have := (mayB_iff.1 a).1
    simp [zeroS] at this
  rcases h5 with ⟨e, hm⟩ | ⟨e, hz⟩
  · rcases h6 with ⟨e2, hm2⟩ | ⟨e2, hz2⟩
    · omega
    · exact key hm hz2
  · rcases h6 with ⟨e2, hm2⟩ | ⟨e2, hz2⟩
    · exact key hm2 hz
    · omega)
theorem may_kinds {f : FrameV} (h : chkF f = 0) : mayB f.S = (f.knd == 1) := by
  obtain ⟨_, _, _, _, h5⟩ := chkF_ok.1 h
  rcases h5 with ⟨e, hm⟩ | ⟨e, hz⟩
  · rw [hm, e]; rfl
  · rw [e, sameS_iff.1 hz]
    rfl
theorem no_V {f : FrameV} (h : chkF f = 0) : chkF { f with S := { f.S with V := f.S.V ++ [1] } } = 1 := chkF_no (fun h2 => by
  obtain ⟨_, _, _, _, h5⟩ := chkF_ok.1 h
  obtain ⟨_, _, _, _, h6⟩ := h2
  simp only at h6
  rcases h6 with ⟨e2, hm2⟩ | ⟨e2, hz2⟩
  · rcases h5 with ⟨e, hm⟩ | ⟨e, hz⟩
    · obtain ⟨_, _, a⟩ := mayB_iff.1 hm
      obtain ⟨_, _, b⟩ := mayB_iff.1 hm2
      simp only [List.length_append, List.length_singleton] at b
      rcases a with a | a | a | a <;> rcases b with b | b | b | b
      all_goals first
        | (have := a.1; have := b.1; omega)
        | (have := a.2.2.1; have := b.2.2.1; omega)
        | (have := b.2.2.2.2.2.2.1; simp at this)
        | (have := b.2.2.1; simp at this)
    · omega
  · have := sameS_iff.1 hz2
    have := congrArg SentV.V this
    simp [zeroS] at this)
theorem no_L {f : FrameV} (h : chkF f = 0) : chkF { f with S := { f.S with L := f.S.L ++ [f.S.dim] } } = 1 := chkF_no (fun h2 => by
  obtain ⟨_, _, _, _, h6⟩ := h2
  simp only at h6
  rcases h6 with ⟨e2, hm2⟩ | ⟨e2, hz2⟩
  · obtain ⟨_, _, b⟩ := mayB_iff.1 hm2
    simp only at b
    rcases b with b | b | b | b
    · have := b.2.1; simp at this
    · have := (chk_ok.1 b.2.1).2.2.2 f.S.dim (by simp)
      omega
    · have := b.2.2.2.2.2.1; simp at this
    · have := b.2.1; simp at this
  · have := sameS_iff.1 hz2
    have := congrArg SentV.L this
    simp [zeroS] at this)
theorem no_scale {f : FrameV} : chkF { f with S := { f.S with scale := -1 } } = 1 := chkF_no (fun h2 => by
  obtain ⟨_, _, _, _, h6⟩ := h2
  simp only at h6
  rcases h6 with ⟨e2, hm2⟩ | ⟨e2, hz2⟩
  · obtain ⟨_, _, b⟩ := mayB_iff.1 hm2
    simp only at b
    rcases b with b | b | b | b
    · have := b.2.2.2.2.2.1; omega
    · have := b.2.2.2.2.2.1; omega
    · have := b.2.2.2.2.2.2.2.1; omega
    · have := b.2.2.2.2.2.1; omega
  · have := sameS_iff.1 hz2
    have := congrArg SentV.scale this
    simp [zeroS] at this)
end Go.Proofs.Ythcigkcnknibgaa
/- Sums: a register halved, a byte taken in, by the program and by the document. -/
namespace Go.Proofs.Ythcigkcnknibgaa
open Go.RowKit
set_option maxHeartbeats 400000
set_option maxRecDepth 100000
set_option linter.unusedVariables false
theorem xor_nat {k : IntKind} {n : Nat} (hn : k.bits = n) (hw : ∀ m : Nat, m < 2 ^ n → k.wrap (m : Int) = m) {a b : Nat} (ha : a < 2 ^ n) (hb : b < 2 ^ n) : bits BinOp.xor k (a : Int) (b : Int) = ((a ^^^ b : Nat) : Int) := by
  show k.wrap ((BitVec.ofInt k.bits a ^^^ BitVec.ofInt k.bits b).toNat : Int) = _
  rw [BitVec.toNat_xor, BitVec.ofInt_natCast, BitVec.ofInt_natCast, BitVec.toNat_ofNat, BitVec.toNat_ofNat, hn, Nat.mod_eq_of_lt ha, Nat.mod_eq_of_lt hb]
  exact hw _ (Nat.xor_lt_two_pow ha hb)
theorem xor_u32 {a b : Nat} (ha : a < 2 ^ 32) (hb : b < 2 ^ 32) : bits BinOp.xor IntKind.u32 (a : Int) (b : Int) = ((a ^^^ b : Nat) : Int) :=
  xor_nat (n := 32) rfl (fun m h => by simp [IntKind.wrap, IntKind.bits, IntKind.signed]; omega) ha hb
theorem xor_u8 {a b : Nat} (ha : a < 2 ^ 8) (hb : b < 2 ^ 8) : bits BinOp.xor IntKind.u8 (a : Int) (b : Int) = ((a ^^^ b : Nat) : Int) :=
  xor_nat (n := 8) rfl (fun m h => by simp [IntKind.wrap, IntKind.bits, IntKind.signed]; omega) ha hb
theorem and_one {x : Nat} (hx : x < 2 ^ 32) : bits BinOp.and IntKind.u32 (x : Int) 1 = ((x % 2 : Nat) : Int) := by
  show IntKind.u32.wrap ((BitVec.ofInt 32 x &&& BitVec.ofInt 32 ((1 : Nat) : Int)).toNat : Int) = _
  rw [BitVec.toNat_and, BitVec.ofInt_natCast, BitVec.ofInt_natCast, BitVec.toNat_ofNat, BitVec.toNat_ofNat, Nat.mod_eq_of_lt hx, show 1 % 2 ^ 32 = 1 from rfl, Nat.and_one_is_mod]
  simp [IntKind.wrap, IntKind.bits, IntKind.signed]
  omega
theorem and_odd {x : Nat} (hx : x < 2 ^ 32) (h : x % 2 = 1) : bits BinOp.and IntKind.u32 (x : Int) 1 = 1 := by rw [and_one hx, h]; rfl
theorem and_even {x : Nat} (hx : x < 2 ^ 32) (h : x % 2 ≠ 1) : bits BinOp.and IntKind.u32 (x : Int) 1 = 0 := by rw [and_one hx, show x % 2 = 0 by omega]; rfl
theorem hs_odd {x : Nat} (hx : x < 2 ^ 32) (h : x % 2 = 1) : bits BinOp.xor IntKind.u32 ((x : Int) / 2) 3988292384 = ((hs x : Nat) : Int) := by
  rw [show ((x : Int) / 2) = ((x / 2 : Nat) : Int) by omega, show (3988292384 : Int) = ((tnr : Nat) : Int) from rfl, xor_u32 (by omega) (by decide)]
  unfold hs
  rw [if_pos h]
theorem hs_even {x : Nat} (h : x % 2 ≠ 1) : ((x : Int) / 2) = ((hs x : Nat) : Int) := by
  unfold hs
  rw [if_neg h]
  omega
theorem crc_halved (r : Nat) (hr : r < 2 ^ 32) (w : World) :
    Calls Try.prog 96 #[.int .u32 (r : Int)] w fun e w' => e = .returned (.int .u32 ((hn 8 r : Nat) : Int)) ∧ w = w' := by
  obtain ⟨R, hR⟩ : ∃ R, hn 8 r = R := ⟨_, rfl⟩
  rw [hR]
  have HR := hid hR
  clear hR
  go_enter Try.func96, Try.ntmps96
  go_wp2_with fail
  go_loop [0, 4] (fun s i => ∃ (k x : Nat), k ≤ 8 ∧ x < 2 ^ 32 ∧ i = .int .i64 k ∧ s = .int .u32 x ∧ hn (8 - k) x = R) (fun _ i => 8 - (intOf i).toNat)
  case atStart => exact ⟨0, r, by omega, hr, rfl, rfl, HR.out⟩
  case round =>
    obtain ⟨k, x, hk, hx, rfl, rfl, hs'⟩ := hrel
    have HS := hid hs'
    clear hs'
    by_cases hlt : k < 8
    · have HN : Hid (hn (8 - (k + 1)) (hs x) = R) := by
        have h := HS.out
        rw [show 8 - k = (8 - (k + 1)) + 1 by omega, hn] at h
        exact h
      by_cases h1 : x % 2 = 1
      · have e1 := hs_odd hx h1
        go_wp2_with fail
        go_round
        case rel => exact ⟨k + 1, hs x, by omega, hs_lt hx, by go_num, rfl, HN.out⟩
        case measure => simp [intOf]; omega
      · have e1 := hs_even h1
        go_wp2_with fail
        go_round
        case rel => exact ⟨k + 1, hs x, by omega, hs_lt hx, by go_num, rfl, HN.out⟩
        case measure => simp [intOf]; omega
    · obtain rfl : k = 8 := by omega
      have HN : Hid (x = R) := HS.out
      go_wp2_with fail
      go_ret
      rw [HN.out]
      exact ⟨rfl, rfl⟩
theorem not_u32 {s : Nat} (h : s < 2 ^ 32) : bits BinOp.xor IntKind.u32 IntKind.u32.max (s : Int) = ((inv s : Nat) : Int) := by
  rw [show IntKind.u32.max = ((4294967295 : Nat) : Int) from rfl, xor_u32 (by decide) h, inv_xor h, Nat.xor_comm]
theorem crc_More {A : Option Addr} {c : Nat} (s : Nat) (hs' : s < 2 ^ 32) (b : List Int) (hb : b.length ≤ 9223372036854775807) (ub : U8s b) (w : World) {B : Nat} (ra : Rd (Value.int .u8) w B A b) :
    Calls Try.prog 87 #[.int .u32 (s : Int), .slice A b.length c] w fun e w' => e = .returned (.int .u32 ((moreN s b : Nat) : Int)) ∧ w = w' := by
  obtain ⟨R, hR⟩ : ∃ R, moreN s b = R := ⟨_, rfl⟩
  rw [hR]
  have HR : Hid (inv (crcL (inv s) b) = R) := hR
  have hi := inv_lt s
  obtain ⟨v, hv⟩ : ∃ v, inv s = v := ⟨_, rfl⟩
  have HA := hid ra
  have UB := hid ub
  have e0 := not_u32 hs'
  rw [hv] at hi e0 HR
  have hsg : IntKind.u32.signed = false := rfl
  clear ra ub hv hR
  go_enter Try.func87, Try.ntmps87
  go_wp2_with fail
  clear e0
  go_loop [5, 12] (fun s i => ∃ (k x : Nat), k ≤ b.length ∧ x < 2 ^ 32 ∧ i = .int .i64 k ∧ s = .int .u32 x ∧ crcL v (b.take k) = x) (fun _ i => b.length - (intOf i).toNat)
  case atStart => exact ⟨0, v, by omega, hi, rfl, rfl, by rw [List.take_zero]; exact crcL_nil v⟩
  case round =>
    obtain ⟨k, x, hk, hx, rfl, rfl, hs'⟩ := hrel
    have HS := hid hs'
    clear hs'
    by_cases hlt : k < b.length
    · obtain ⟨b1, o1, y, rfl, l1, ex, c1⟩ := HA.out.at_ hlt
      obtain ⟨y0, y1⟩ := UB.out.at_ ex
      obtain ⟨y, rfl⟩ := Int.eq_ofNat_of_zero_le y0
      have e1 := xor_u32 (a := x) (b := y) hx (by omega)
      have hz : x ^^^ y < 2 ^ 32 := Nat.xor_lt_two_pow hx (by omega)
      have CH := hid (crc_halved (x ^^^ y) hz)
      have HN : Hid (crcL v (b.take (k + 1)) = crcB x y) := by
        have h := crcL_step v ex
        rw [HS.out] at h
        exact h
      have hc := crcB_lt (c := x) (x := y) hx (by omega)
      rw [show hn 8 (x ^^^ y) = crcB x y from rfl] at CH
      obtain ⟨z, hz'⟩ : ∃ z, x ^^^ y = z := ⟨_, rfl⟩
      rw [hz'] at e1 hz CH
      obtain ⟨N, hN⟩ : ∃ N, crcB x y = N := ⟨_, rfl⟩
      rw [hN] at CH HN hc
      clear ex hz' hN y0
      go_wp2_with fail
      refine (CH.out _).mono ?_
      rintro _ _ ⟨rfl, rfl⟩
      go_wp2_with fail
      go_round
      case rel => exact ⟨k + 1, N, by omega, hc, by go_num, rfl, HN.out⟩
      case measure => simp [intOf]; omega
    · have e1 := not_u32 hx
      have HN : Hid (inv x = R) := by
        have h := HS.out
        rw [List.take_of_length_le (by omega)] at h
        rw [← h]
        exact HR.out
      obtain ⟨N, hN⟩ : ∃ N, inv x = N := ⟨_, rfl⟩
      rw [hN] at e1 HN
      clear hN
      obtain rfl : k = b.length := by omega
      go_wp2_with fail
      go_ret
      rw [HN.out]
      exact ⟨rfl, rfl⟩
theorem crc_Sum {A : Option Addr} {c : Nat} (b : List Int) (hb : b.length ≤ 9223372036854775807) (ub : U8s b) (w : World) {B : Nat} (ra : Rd (Value.int .u8) w B A b) :
    Calls Try.prog 72 #[.slice A b.length c] w fun e w' => e = .returned (.int .u32 ((sumN b : Nat) : Int)) ∧ w = w' := by
  have CM := hid (crc_More (A := A) (c := c) 0 (by decide) b hb ub w ra)
  rw [show moreN 0 b = sumN b from rfl] at CM
  obtain ⟨R, hR⟩ : ∃ R, sumN b = R := ⟨_, rfl⟩
  rw [hR] at CM ⊢
  clear hR ra ub
  go_enter Try.func72, Try.ntmps72
  go_wp2_with fail
  refine CM.out.mono ?_
  rintro _ _ ⟨rfl, rfl⟩
  go_wp2_with fail
  go_ret
  exact ⟨rfl, rfl⟩
theorem ref_More {A : Option Addr} {c : Nat} (s : Nat) (hs' : s < 2 ^ 32) (b : List Int) (hb : b.length ≤ 9223372036854775807) (ub : U8s b) (w : World) {B : Nat} (ra : Rd (Value.int .u8) w B A b) :
    Calls Try.prog 74 #[.int .u32 (s : Int), .slice A b.length c] w fun e w' => e = .returned (.int .u32 ((moreN s b : Nat) : Int)) ∧ w = w' := by
  obtain ⟨R, hR⟩ : ∃ R, moreN s b = R := ⟨_, rfl⟩
  rw [hR]
  have HR : Hid (inv (crcL (inv s) b) = R) := hR
  have hi := inv_lt s
  obtain ⟨v, hv⟩ : ∃ v, inv s = v := ⟨_, rfl⟩
  have HA := hid ra
  have UB := hid ub
  have e0 := not_u32 hs'
  rw [hv] at hi e0 HR
  have hsg : IntKind.u32.signed = false := rfl
  clear ra ub hv hR
  go_enter Try.func74, Try.ntmps74
  go_wp2_with fail
  clear e0
  go_loop [5, 13] (fun s i => ∃ (k x : Nat), k ≤ b.length ∧ x < 2 ^ 32 ∧ i = .int .i64 k ∧ s = .int .u32 x ∧ crcL v (b.take k) = x) (fun _ i => b.length - (intOf i).toNat)
  case atStart => exact ⟨0, v, by omega, hi, rfl, rfl, by rw [List.take_zero]; exact crcL_nil v⟩
  case round =>
    obtain ⟨k, x, hk, hx, rfl, rfl, hs'⟩ := hrel
    have HS := hid hs'
    clear hs'
    by_cases hlt : k < b.length
    · obtain ⟨b1, o1, y, rfl, l1, ex, c1⟩ := HA.out.at_ hlt
      obtain ⟨y0, y1⟩ := UB.out.at_ ex
      obtain ⟨y, rfl⟩ := Int.eq_ofNat_of_zero_le y0
      have e1 := xor_u32 (a := x) (b := y) hx (by omega)
      have hz : x ^^^ y < 2 ^ 32 := Nat.xor_lt_two_pow hx (by omega)
      have HN : Hid (crcL v (b.take (k + 1)) = crcB x y) := by
        have h := crcL_step v ex
        rw [HS.out] at h
        exact h
      have hc := crcB_lt (c := x) (x := y) hx (by omega)
      have HZ : Hid (hn 8 (x ^^^ y) = crcB x y) := rfl
      obtain ⟨z, hz'⟩ : ∃ z, x ^^^ y = z := ⟨_, rfl⟩
      rw [hz'] at e1 hz HZ
      obtain ⟨N, hN⟩ : ∃ N, crcB x y = N := ⟨_, rfl⟩
      rw [hN] at HZ HN hc
      clear ex hz' hN y0
      go_wp2_with fail
      clear e1
      go_loop [5, 21] (fun s i => ∃ (j x : Nat), j ≤ 8 ∧ x < 2 ^ 32 ∧ i = .int .i64 j ∧ s = .int .u32 x ∧ hn (8 - j) x = N) (fun _ i => 8 - (intOf i).toNat)
      case atStart => exact ⟨0, z, by omega, hz, rfl, rfl, HZ.out⟩
      case round =>
        obtain ⟨j, q, hj, hq, rfl, rfl, hs'⟩ := hrel
        have HS := hid hs'
        clear hs' hz
        by_cases hlt : j < 8
        · have HN2 : Hid (hn (8 - (j + 1)) (hs q) = N) := by
            have h := HS.out
            rw [show 8 - j = (8 - (j + 1)) + 1 by omega, hn] at h
            exact h
          by_cases h1 : q % 2 = 1
          · have e1 := hs_odd hq h1
            have e2 := and_odd hq h1
            go_wp2_with fail
            go_round
            case rel => exact ⟨j + 1, hs q, by omega, hs_lt hq, by go_num, rfl, HN2.out⟩
            case measure => simp [intOf]; omega
          · have e1 := hs_even h1
            have e2 := and_even hq h1
            go_wp2_with fail
            go_round
            case rel => exact ⟨j + 1, hs q, by omega, hs_lt hq, by go_num, rfl, HN2.out⟩
            case measure => simp [intOf]; omega
        · obtain rfl : j = 8 := by omega
          have HQ : Hid (q = N) := HS.out
          go_wp2_with fail
          go_round
          case rel => exact ⟨k + 1, q, by omega, hq, by go_num, rfl, by rw [HQ.out]; exact HN.out⟩
          case measure => simp [intOf]; omega
    · have e1 := not_u32 hx
      have HN : Hid (inv x = R) := by
        have h := HS.out
        rw [List.take_of_length_le (by omega)] at h
        rw [← h]
        exact HR.out
      obtain ⟨N, hN⟩ : ∃ N, inv x = N := ⟨_, rfl⟩
      rw [hN] at e1 HN
      clear hN
      obtain rfl : k = b.length := by omega
      go_wp2_with fail
      go_ret
      rw [HN.out]
      exact ⟨rfl, rfl⟩
theorem ref_Sum {A : Option Addr} {c : Nat} (b : List Int) (hb : b.length ≤ 9223372036854775807) (ub : U8s b) (w : World) {B : Nat} (ra : Rd (Value.int .u8) w B A b) :
    Calls Try.prog 53 #[.slice A b.length c] w fun e w' => e = .returned (.int .u32 ((sumN b : Nat) : Int)) ∧ w = w' := by
  have CM := hid (ref_More (A := A) (c := c) 0 (by decide) b hb ub w ra)
  rw [show moreN 0 b = sumN b from rfl] at CM
  obtain ⟨R, hR⟩ : ∃ R, sumN b = R := ⟨_, rfl⟩
  rw [hR] at CM ⊢
  clear hR ra ub
  go_enter Try.func53, Try.ntmps53
  go_wp2_with fail
  refine CM.out.mono ?_
  rintro _ _ ⟨rfl, rfl⟩
  go_wp2_with fail
  go_ret
  exact ⟨rfl, rfl⟩
end Go.Proofs.Ythcigkcnknibgaa
/- A text with one bit turned, by the program and by the document. -/
namespace Go.Proofs.Ythcigkcnknibgaa
open Go.RowKit
set_option maxHeartbeats 400000
set_option maxRecDepth 100000
set_option linter.unusedVariables false
end Go.Proofs.Ythcigkcnknibgaa
