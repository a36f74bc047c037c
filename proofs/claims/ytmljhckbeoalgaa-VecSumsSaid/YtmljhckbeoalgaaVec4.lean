
/- vec's Sum, by its contract. -/
import Derived.Test.YtmljhckbeoalgaaVec3
import Derived.Test.YtmljhckbeoalgaaApp
import Derived.Outline
namespace Go.Proofs.Ytmljhckbeoalgaa
open Go.RowKit
set_option maxHeartbeats 400000
set_option linter.unusedVariables false
/-- A call's answer: a list of numbers, in memory of the call's own; nothing that was there has turned. -/
def OwnList (xs : List Int) (w : World) (e : Ending) (w' : World) : Prop :=
  ∃ A c, e = .returned (.slice A xs.length c) ∧ w'.ownsRow w.heap.size 2 1 (.slice A xs.length c) xs.length (xs.map (Value.int .i64)) ∧ Below w.heap.size w w'
theorem Clone_any {A : Option Addr} {c : Nat} (xs : List Int) (hx : xs.length ≤ 1099511627776) (w : World) (ra : Rd (Value.int .i64) w w.heap.size A xs) :
    Calls Try.prog 60 #[.slice A xs.length c] w (OwnList xs w) := by
  have qT : ∀ (w : World) (a : Option Addr) (n c n' c' : Nat), (binOp .eql 22 (.slice a n c) (.slice none n' c')).run Try.prog w = .ok (.bool a.isNone) w := fun w a n c n' c' => Lib.run_eql_slice_nil w _ _ a n c n' c' Try.underlying22
  rcases A with _ | ad
  · have hxs : xs = [] := by
      cases xs with
      | nil => rfl
      | cons x xs =>
        obtain ⟨_, _, he, _⟩ := ra 0 x rfl
        cases he
    subst hxs
    clear ra
    go_enter Try.func60, Try.ntmps60
    go_wp2_with fail
    go_ret
    exact ⟨none, 0, rfl, own_nil _ _ _, Below.refl _ _⟩
  · have HA := hid ra
    clear ra
    go_enter Try.func60, Try.ntmps60
    have h0 : (w.alloc (.cells #[] 2)).ownsRow w.heap.size 2 1 (.slice (some ⟨w.heap.size, 0, none⟩) ([] : List Int).length 0) ([] : List Int).length (([] : List Int).map (Value.int .i64)) :=
      World.ownsRow_made w #[] 0 (Nat.le_refl _) (by unfold maxLen; omega) rfl
    have hr0 := HA.out.below ((Below.refl w.heap.size w).alloc (Nat.le_refl _) (.cells #[] 2))
    go_wp2_with (at_builtin; refine wpList_app (Value.int .i64) (fun _ => rfl) _ rfl _ _ 22 rfl w.heap.size 2 (.int .i64 0) 8 Try.underlying22 info_i64 rfl [] _ 0 rfl h0 xs _ c w.heap.size rfl hr0 (by simp [maxLen]; omega) (by simp; omega) (by simp) ?_)
    rintro S A' c' w1 rfl ho hb _
    go_wp2_with fail
    go_ret
    exact ⟨A', c', rfl, ho, ((Below.refl w.heap.size w).alloc (Nat.le_refl _) _).trans hb⟩
/-- A slice of slices at A reads as these lists. -/
def RdRows (w : World) (B : Nat) (A : Option Addr) (rows : List (List Int)) : Prop :=
  ∀ k xs, rows[k]? = some xs → ∃ b off A' c', A = some ⟨b, off, none⟩ ∧ b < B ∧ w.cell? ⟨b, off + k, none⟩ = some (.slice A' xs.length c') ∧ Rd (Value.int .i64) w B A' xs
theorem RdRows.below {w w' : World} {B : Nat} {A : Option Addr} {rows : List (List Int)} (h : RdRows w B A rows) (hb : Below B w w') : RdRows w' B A rows := fun k xs hx => by
  obtain ⟨b, off, A', c', e, hl, hc, hr⟩ := h k xs hx
  exact ⟨b, off, A', c', e, hl, (hb.cell (p := ⟨b, off + k, none⟩) hl).trans hc, hr.below hb⟩
theorem RdRows.more {w : World} {B B' : Nat} {A : Option Addr} {rows : List (List Int)} (h : RdRows w B A rows) (hB : B ≤ B') : RdRows w B' A rows := fun k xs hx => by
  obtain ⟨b, off, A', c', e, hl, hc, hr⟩ := h k xs hx
  exact ⟨b, off, A', c', e, by omega, hc, hr.more hB⟩
theorem RdRows.on {w w' : World} {A : Option Addr} {rows : List (List Int)} (h : RdRows w w.heap.size A rows) (hb : Below w.heap.size w w') : RdRows w' w'.heap.size A rows := (h.below hb).more hb.size
def sumFrom : List Int → List (List Int) → List Int × Int
  | S, [] => (S, 0)
  | S, v :: r => if opE (· + ·) S v = 0 then sumFrom (opV (· + ·) S v) r else ([], opE (· + ·) S v)
/-- Vectors added, from the first one on: the vector, and the error. -/
def sumAll : List (List Int) → List Int × Int
  | [] => ([], 0)
  | v :: r => if 4096 < v.length then ([], 3) else sumFrom v r
def RowsOk (rows : List (List Int)) : Prop := ∀ xs ∈ rows, I64s xs ∧ xs.length ≤ 1099511627776
theorem sum_go {S v : List Int} {r : List (List Int)} {k : Nat} (hv : r[k]? = some v) (h : opE (· + ·) S v = 0) : sumFrom S (r.drop k) = sumFrom (opV (· + ·) S v) (r.drop (k + 1)) := by
  have hk : k < r.length := (List.getElem?_eq_some_iff.1 hv).1
  rw [List.drop_eq_getElem_cons hk, show r[k] = v from (List.getElem?_eq_some_iff.1 hv).2]
  exact if_pos h
theorem sum_off {S v : List Int} {r : List (List Int)} {k : Nat} (hv : r[k]? = some v) (h : opE (· + ·) S v ≠ 0) : sumFrom S (r.drop k) = ([], opE (· + ·) S v) := by
  have hk : k < r.length := (List.getElem?_eq_some_iff.1 hv).1
  rw [List.drop_eq_getElem_cons hk, show r[k] = v from (List.getElem?_eq_some_iff.1 hv).2]
  exact if_neg h
theorem opV_off {f : Int → Int → Int} {xs ys : List Int} (h : opE f xs ys ≠ 0) : opV f xs ys = [] := by
  unfold opE at h
  unfold opV
  split
  · rename_i e
    rw [if_pos e] at h
    unfold seqV
    rw [if_neg h]
  · rfl
theorem Sum_nil (A : Option Addr) (c : Nat) (w : World) :
    Calls Try.prog 34 #[.slice A 0 c] w (OwnInts [] 0 w) := by
  go_enter Try.func34, Try.ntmps34
  go_wp2_with fail
  go_ret2
  exact ⟨none, 0, rfl, own_nil _ _ _, Below.refl _ _⟩
theorem Sum_long (A : Option Addr) (c : Nat) (v : List Int) (r : List (List Int)) (hl : 4096 < v.length) (ho : RowsOk (v :: r)) (hr : r.length ≤ 1099511627776) (w : World) (ra : RdRows w w.heap.size A (v :: r)) :
    Calls Try.prog 34 #[.slice A (v :: r).length c] w (OwnInts [] 3 w) := by
  obtain ⟨b, off, A', c', rfl, hb, hc, hv⟩ := ra 0 v rfl
  have lv := (ho v (by simp)).2
  have CM := hid (Check_any A' v.length c' (by omega))
  rw [show oneE v.length = 3 from if_pos hl] at CM
  rw [Nat.add_zero] at hc
  rw [List.length_cons]
  clear ra ho hv
  go_enter Try.func34, Try.ntmps34
  go_wp2_with fail
  refine (CM.out _).mono ?_
  rintro _ _ ⟨rfl, rfl⟩
  go_wp2_with fail
  go_ret2
  exact ⟨none, 0, rfl, own_nil _ _ _, Below.refl _ _⟩
theorem Sum_short (A : Option Addr) (c : Nat) (v : List Int) (r : List (List Int)) (hl : ¬ 4096 < v.length) (ho : RowsOk (v :: r)) (hr : r.length ≤ 1099511627776) (hcap : r.length + 1 ≤ c) (w : World) (ra : RdRows w w.heap.size A (v :: r)) :
    Calls Try.prog 34 #[.slice A (v :: r).length c] w (OwnInts (sumFrom v r).1 (sumFrom v r).2 w) := by
  obtain ⟨b, off, A', c', rfl, hb, hc, hv⟩ := ra 0 v rfl
  obtain ⟨iv, lv⟩ := ho v (by simp)
  have CM := hid (Check_any A' v.length c' (by omega))
  have CC := hid (Clone_any (c := c') v lv w hv)
  rw [show oneE v.length = 0 from if_neg hl] at CM
  rw [Nat.add_zero] at hc
  rw [List.length_cons]
  have RA := hid ra
  have HO := hid ho
  have IV := hid iv
  clear ra ho hv iv
  go_enter Try.func34, Try.ntmps34
  go_wp2_with fail
  refine (CM.out _).mono ?_
  rintro _ _ ⟨rfl, rfl⟩
  go_wp2_with fail
  refine CC.out.mono ?_
  rintro _ w1 ⟨A1, c1, rfl, ho1, hb1⟩
  have HO1 := hid ho1
  clear ho1
  go_wp2_with fail
  all_goals
    go_loopw [5, 26] (fun s i wr => ∃ (k : Nat) (S : List Int) (A2 : Option Addr) (c2 : Nat), k ≤ r.length ∧ i = .int .i64 k ∧ s = .slice A2 S.length c2 ∧ wr.ownsRow w.heap.size 2 1 (.slice A2 S.length c2) S.length (S.map (Value.int .i64)) ∧ I64s S ∧ S.length ≤ 4096 ∧ sumFrom S (r.drop k) = sumFrom v r ∧ Below w.heap.size w wr) (fun _ i _ => r.length - (intOf i).toNat)
    case atStart => exact ⟨0, v, A1, c1, by omega, rfl, rfl, HO1.out, IV.out, by omega, by rw [List.drop_zero], hb1⟩
    case round =>
      obtain ⟨k, S, A2, c2, hk, rfl, rfl, hS, iS, lS, hs, hbr⟩ := hrel
      have HSO := hid hS
      have HSI := hid iS
      have HSE := hid hs
      clear hS iS hs
      by_cases hlt : k < r.length
      · first
        | (exfalso; omega)
        | (obtain ⟨u, hu⟩ : ∃ u, r[k]? = some u := ⟨_, List.getElem?_eq_getElem hlt⟩
           obtain ⟨b3, off3, A3, c3, e3, l3, hc3, hr3⟩ := RA.out (k + 1) u (by rw [List.getElem?_cons_succ]; exact hu)
           have e4 := Option.some.inj e3
           simp only [Addr.mk.injEq] at e4
           obtain ⟨rfl, rfl, _⟩ := e4
           have hc4 : wr.cell? ⟨b, off + 1 + k, none⟩ = some (.slice A3 u.length c3) := by
             rw [show off + 1 + k = off + (k + 1) by omega]
             exact (hbr.cell (p := ⟨b, off + (k + 1), none⟩) l3).trans hc3
           have hu2 := HO.out u (by simp [List.mem_of_getElem? hu])
           have lu := hu2.2
           have CA := hid (Add_any (c := c2) (d := c3) S u (by omega) (by omega) HSI.out hu2.1 wr (own_rd HSO.out) ((hr3.below hbr).more hbr.size))
           have hgo := hid (fun h => sum_go (S := S) hu h)
           have hoff := hid (fun h => sum_off (S := S) hu h)
           have hlen := opV_len (· + ·) S u
           have hi64 := hid (opV_i64 (· + ·) S u)
           have hVO := hid (fun h => opV_off (f := (· + ·)) (xs := S) (ys := u) h)
           obtain ⟨er, he⟩ : ∃ x, opE (· + ·) S u = x := ⟨_, rfl⟩
           obtain ⟨T, hT⟩ : ∃ x, opV (· + ·) S u = x := ⟨_, rfl⟩
           rw [he, hT] at CA hgo hVO
           rw [he] at hoff
           rw [hT] at hlen hi64
           clear hc3 hr3 hu2 hu e3 he hT
           go_wp2_with fail
           refine CA.out.mono ?_
           rintro _ w2 ⟨A4, c4, rfl, ho4, hb4⟩
           have HO4 := hid ho4
           clear ho4
           have hbr2 := hbr.trans (hb4.mono hbr.size)
           by_cases her : er = 0
           · subst her
             go_wp2_with fail
             go_roundw
             case rel => exact ⟨k + 1, T, A4, c4, by omega, by go_num, rfl, own_base HO4.out hbr.size, hi64.out, hlen, by rw [← hgo.out (by simp)]; exact HSE.out, hbr2⟩
             case measure => simp [intOf]; omega
           · have hne : (er != 0) = true := by simpa using her
             have hh := hid (hoff.out her)
             go_wp2_with fail
             go_ret2
             rw [← HSE.out, hh.out]
             exact ⟨none, 0, rfl, own_nil _ _ _, hbr2⟩)
      · obtain rfl : k = r.length := by omega
        go_wp2_with fail
        go_ret2
        have := HSE.out
        rw [List.drop_length] at this
        rw [← this]
        exact ⟨A2, c2, rfl, HSO.out, hbr⟩
theorem Sum_any (A : Option Addr) (c : Nat) (rows : List (List Int)) (ho : RowsOk rows) (hr : rows.length ≤ 1099511627776) (hcap : rows.length ≤ c) (w : World) (ra : RdRows w w.heap.size A rows) :
    Calls Try.prog 34 #[.slice A rows.length c] w (OwnInts (sumAll rows).1 (sumAll rows).2 w) := by
  cases rows with
  | nil => exact Sum_nil A c w
  | cons v r =>
    simp only [List.length_cons] at hr hcap
    by_cases hl : 4096 < v.length
    · rw [show sumAll (v :: r) = ([], 3) from if_pos hl]
      exact Sum_long A c v r hl ho (by omega) w ra
    · rw [show sumAll (v :: r) = sumFrom v r from if_neg hl]
      exact Sum_short A c v r hl ho (by omega) (by omega) w ra
end Go.Proofs.Ytmljhckbeoalgaa
