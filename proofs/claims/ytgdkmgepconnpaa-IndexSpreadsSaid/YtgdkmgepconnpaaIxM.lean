
/- Places that rise, their code, numbers spread and gathered, lists together: plain mathematics. No program in sight. -/
import Derived.Test.YtgdkmgepconnpaaLebN
namespace Go.Proofs.Ytgdkmgepconnpaa
set_option linter.unusedVariables false
/-- A list that rises. -/
def risP (l : List Int) : Prop := l.Pairwise (· < ·)
instance (l : List Int) : Decidable (risP l) := by unfold risP; infer_instance
def risB (l : List Int) : Bool := decide (risP l)
theorem ris_iff {l : List Int} : risP l ↔ ∀ (i j : Nat) (x y : Int), l[i]? = some x → l[j]? = some y → i < j → x < y := by
  unfold risP
  rw [List.pairwise_iff_getElem]
  constructor
  · intro h i j x y hx hy hij
    obtain ⟨h1, rfl⟩ := List.getElem?_eq_some_iff.1 hx
    obtain ⟨h2, rfl⟩ := List.getElem?_eq_some_iff.1 hy
    exact h i j h1 h2 hij
  · intro h i j hi hj hij
    exact h i j _ _ (List.getElem?_eq_getElem hi) (List.getElem?_eq_getElem hj) hij
theorem ris_nil : risP [] := List.Pairwise.nil
theorem ris_one (x : Int) : risP [x] := List.pairwise_singleton _ _
theorem ris_take {l : List Int} (h : risP l) (k : Nat) : risP (l.take k) := List.Pairwise.sublist (List.take_sublist k l) h
theorem ris_snoc {l : List Int} {y : Int} : risP (l ++ [y]) ↔ risP l ∧ ∀ x ∈ l, x < y := by
  unfold risP
  rw [List.pairwise_append]
  simp
theorem take_snoc {l : List Int} {k : Nat} {y : Int} (h : l[k]? = some y) : l.take (k + 1) = l.take k ++ [y] := by
  rw [List.take_add_one, h]; rfl
theorem ris_step {l : List Int} {k : Nat} {x y : Int} (h : risP (l.take k)) (hy : l[k]? = some y) (hx : k = 0 ∨ l[k - 1]? = some x ∧ x < y) : risP (l.take (k + 1)) := by
  rw [take_snoc hy, ris_snoc]
  refine ⟨h, fun z hz => ?_⟩
  rcases hx with rfl | ⟨hx, hlt⟩
  · simp at hz
  · have hk : k ≠ 0 := by rintro rfl; simp at hz
    obtain ⟨j, rfl⟩ : ∃ j, k = j + 1 := ⟨k - 1, by omega⟩
    rw [Nat.add_sub_cancel] at hx
    rw [take_snoc hx] at h hz
    rcases List.mem_append.1 hz with hz | hz
    · have := (ris_snoc.1 h).2 z hz; omega
    · simp at hz; omega
theorem ris_no {l : List Int} {i j : Nat} {x y : Int} (hx : l[i]? = some x) (hy : l[j]? = some y) (hij : i < j) (h : y ≤ x) : ¬ risP l := fun hr => by
  have := ris_iff.1 hr i j x y hx hy hij
  omega
theorem ris_nodup {l : List Int} (h : risP l) : l.Nodup := List.Pairwise.imp (fun h => by omega) h
/-- Two lists that rise are one, if they have the same numbers. -/
theorem ris_eq {a b : List Int} (ha : risP a) (hb : risP b) (h : ∀ x, x ∈ a ↔ x ∈ b) : a = b := by
  have hp := (List.perm_ext_iff_of_nodup (ris_nodup ha) (ris_nodup hb)).2 h
  exact List.Perm.eq_of_pairwise (fun x y _ _ h1 h2 => by omega) ha hb hp
/-- Whether they are places of a dimension. -/
def plcP (dim : Int) (l : List Int) : Prop := 1 ≤ dim ∧ dim ≤ 4096 ∧ risP l ∧ ∀ n ∈ l, 0 ≤ n ∧ n < dim
instance (dim : Int) (l : List Int) : Decidable (plcP dim l) := by unfold plcP; infer_instance
def chkE (dim : Int) (l : List Int) : Int := if plcP dim l then 0 else 1
theorem chk_ok {dim : Int} {l : List Int} : chkE dim l = 0 ↔ plcP dim l := by
  unfold chkE
  split
  · simp_all
  · simp_all
theorem chk_no {dim : Int} {l : List Int} (h : ¬ plcP dim l) : chkE dim l = 1 := if_neg h
theorem chk_or (dim : Int) (l : List Int) : chkE dim l = 0 ∨ chkE dim l = 1 := by unfold chkE; split <;> simp
/-- All numbers from 0 on. -/
def upI (k : Nat) : List Int := (List.range k).map fun n : Nat => (n : Int)
theorem upI_succ (k : Nat) : upI (k + 1) = upI k ++ [(k : Int)] := by unfold upI; rw [List.range_succ, List.map_append]; rfl
theorem upI_len (k : Nat) : (upI k).length = k := by unfold upI; simp
theorem upI_mem {k : Nat} {x : Int} : x ∈ upI k ↔ 0 ≤ x ∧ x < k := by
  unfold upI
  rw [List.mem_map]
  constructor
  · rintro ⟨n, hn, rfl⟩
    have := List.mem_range.1 hn
    omega
  · intro h
    exact ⟨x.toNat, List.mem_range.2 (by omega), by omega⟩
theorem upI_ris : ∀ k, risP (upI k)
  | 0 => ris_nil
  | k + 1 => by
    rw [upI_succ, ris_snoc]
    exact ⟨upI_ris k, fun x hx => (upI_mem.1 hx).2⟩
theorem upI_at {k i : Nat} (h : i < k) : (upI k)[i]? = some (i : Int) := by unfold upI; simp [h]
theorem ris_filter {l : List Int} (h : risP l) (p : Int → Bool) : risP (l.filter p) := List.Pairwise.sublist List.filter_sublist h
theorem plc_sub {dim : Int} {l : List Int} (h : plcP dim l) : ∃ k : Nat, dim = k ∧ 1 ≤ k ∧ k ≤ 4096 ∧ l = (upI k).filter (fun x => decide (x ∈ l)) := by
  obtain ⟨h1, h2, h3, h4⟩ := h
  obtain ⟨k, rfl⟩ := Int.eq_ofNat_of_zero_le (show 0 ≤ dim by omega)
  refine ⟨k, rfl, by omega, by omega, ris_eq h3 (ris_filter (upI_ris k) _) fun x => ?_⟩
  rw [List.mem_filter, upI_mem]
  constructor
  · intro h; exact ⟨h4 x h, by simpa using h⟩
  · intro h; simpa using h.2
theorem filter_both (p : Int → Bool) (l : List Int) : (l.filter p).length + (l.filter fun x => !p x).length = l.length := by
  induction l with
  | nil => rfl
  | cons x l ih =>
    rw [List.filter_cons, List.filter_cons]
    cases p x <;> simp <;> omega
/-- The places that are not in a list. -/
def lfF (k : Nat) (l : List Int) : List Int := (upI k).filter fun x => !decide (x ∈ l)
def lfV (dim : Int) (l : List Int) : List Int := if chkE dim l = 0 then lfF dim.toNat l else []
theorem lfF_step (k : Nat) (l : List Int) : lfF (k + 1) l = lfF k l ++ if (k : Int) ∈ l then [] else [(k : Int)] := by
  unfold lfF
  rw [upI_succ, List.filter_append]
  congr 1
  by_cases h : (k : Int) ∈ l <;> simp [h]
theorem plc_len {k : Nat} {l : List Int} (h : plcP k l) : l.length + (lfF k l).length = k := by
  obtain ⟨k', e, _, _, hl⟩ := plc_sub h
  obtain rfl : k = k' := by omega
  have := filter_both (fun x => decide (x ∈ l)) (upI k)
  rw [upI_len] at this
  unfold lfF
  have e2 : ((upI k).filter fun x => decide (x ∈ l)).length = l.length := by rw [← hl]
  omega
theorem plc_le {dim : Int} {l : List Int} (h : plcP dim l) : (l.length : Int) ≤ dim := by
  obtain ⟨k, rfl, _, _, _⟩ := plc_sub h
  have := plc_len h
  omega
theorem lfF_mem {k : Nat} {l : List Int} {x : Int} : x ∈ lfF k l ↔ (0 ≤ x ∧ x < k) ∧ x ∉ l := by
  unfold lfF
  rw [List.mem_filter, upI_mem]
  simp
theorem lf_plc {dim : Int} {l : List Int} (h : plcP dim l) : plcP dim (lfV dim l) := by
  unfold lfV
  rw [if_pos (chk_ok.2 h)]
  obtain ⟨k, rfl, h1, h2, _⟩ := plc_sub h
  rw [Int.toNat_natCast]
  exact ⟨by omega, by omega, ris_filter (upI_ris k) _, fun n hn => (lfF_mem.1 hn).1⟩
theorem lf_lf {dim : Int} {l : List Int} (h : plcP dim l) : lfV dim (lfV dim l) = l := by
  have h2 := lf_plc h
  obtain ⟨k, rfl, _, _, _⟩ := plc_sub h
  have e : lfV k (lfV k l) = lfF k (lfF k l) := by
    unfold lfV
    rw [if_pos (chk_ok.2 h)]
    rw [if_pos]
    · rw [Int.toNat_natCast]
    · unfold lfV at h2
      rw [if_pos (chk_ok.2 h)] at h2
      exact chk_ok.2 h2
  rw [e]
  refine ris_eq (ris_filter (upI_ris k) _) h.2.2.1 fun x => ?_
  rw [lfF_mem, lfF_mem]
  constructor
  · intro h3
    by_cases hx : x ∈ l
    · exact hx
    · exact absurd ⟨h3.1, hx⟩ h3.2
  · intro hx
    exact ⟨h.2.2.2 x hx, fun h4 => h4.2 hx⟩
/-- Distances, less 1. -/
def gapsF : Int → List Int → List Int
  | _, [] => []
  | last, n :: l => (n - last - 1) :: gapsF n l
def lastI (a : Int) (l : List Int) : Int := l.getLastD a
theorem lastI_snoc (a : Int) (l : List Int) (x : Int) : lastI a (l ++ [x]) = x := by unfold lastI; simp
theorem gaps_snoc : ∀ (l : List Int) (a x : Int), gapsF a (l ++ [x]) = gapsF a l ++ [x - lastI a l - 1]
  | [], a, x => by simp [gapsF, lastI]
  | n :: l, a, x => by
    rw [List.cons_append, gapsF, gapsF, gaps_snoc l n x, List.cons_append]
    congr 3
    unfold lastI
    cases l with
    | nil => rfl
    | cons y l => rw [List.getLastD_cons, List.getLastD_cons, List.getLastD_cons]
theorem gaps_len : ∀ (l : List Int) (a : Int), (gapsF a l).length = l.length
  | [], _ => rfl
  | n :: l, a => by rw [gapsF, List.length_cons, gaps_len l n, List.length_cons]
theorem gaps_u64 : ∀ (l : List Int) (a : Int), risP (a :: l) → -1 ≤ a → (∀ n ∈ l, n < 4096) → U64s (gapsF a l)
  | [], _, _, _, _ => by intro x hx; simp [gapsF] at hx
  | n :: l, a, hr, ha, hb => by
    have h1 : a < n := (List.pairwise_cons.1 hr).1 n (by simp)
    have h2 := hb n (by simp)
    intro x hx
    rw [gapsF] at hx
    rcases List.mem_cons.1 hx with rfl | hx
    · unfold U64; omega
    · exact gaps_u64 l n (List.pairwise_cons.1 hr).2 (by omega) (fun m hm => hb m (by simp [hm])) x hx
def putL (l : List Int) : List Int := (l.length : Int) :: gapsF (-1) l
def pixV (dim : Int) (l : List Int) : List Int := if chkE dim l = 0 then encs (putL l) else []
theorem plc_cons {dim : Int} {l : List Int} (h : plcP dim l) : risP (-1 :: l) := List.pairwise_cons.2 ⟨fun n hn => by have := h.2.2.2 n hn; omega, h.2.2.1⟩
theorem putL_u64 {dim : Int} {l : List Int} (h : plcP dim l) : U64s (putL l) := by
  have h1 := plc_le h
  have h2 := h.2.1
  intro x hx
  unfold putL at hx
  rcases List.mem_cons.1 hx with rfl | hx
  · unfold U64; omega
  · exact gaps_u64 l (-1) (plc_cons h) (by omega) (fun n hn => by have := h.2.2.2 n hn; omega) x hx
theorem putL_step {l : List Int} {k : Nat} {x : Int} (h : l[k]? = some x) : gapsF (-1) (l.take (k + 1)) = gapsF (-1) (l.take k) ++ [x - lastI (-1) (l.take k) - 1] := by
  rw [take_snoc h, gaps_snoc]
theorem lastI_step {l : List Int} {k : Nat} {x : Int} (h : l[k]? = some x) : lastI (-1) (l.take (k + 1)) = x := by
  rw [take_snoc h, lastI_snoc]
theorem lastI_mem : ∀ (l : List Int) (a : Int), lastI a l = a ∧ l = [] ∨ lastI a l ∈ l
  | [], a => by simp [lastI]
  | n :: l, a => by right; unfold lastI; rw [List.getLastD_cons]; rcases lastI_mem l n with ⟨h, _⟩ | h
                    · unfold lastI at h; rw [h]; simp
                    · unfold lastI at h; exact List.mem_cons_of_mem _ h
theorem lastI_lt {dim : Int} {l : List Int} {k : Nat} {x : Int} (h : plcP dim l) (hx : l[k]? = some x) : -1 ≤ lastI (-1) (l.take k) ∧ lastI (-1) (l.take k) < x ∧ 0 ≤ x ∧ x < dim := by
  have hr := ris_take h.2.2.1 (k + 1)
  rw [take_snoc hx, ris_snoc] at hr
  have hxd := h.2.2.2 x (List.mem_of_getElem? hx)
  rcases lastI_mem (l.take k) (-1) with ⟨e, _⟩ | hm
  · rw [e]; omega
  · have h1 := hr.2 _ hm
    have h2 := h.2.2.2 _ (List.mem_of_mem_take hm)
    omega
/-- What is read: so many distances from a place on, the last place ahead of them. -/
def ixL (dim : Int) (b : List Int) : Nat → Int → Int → List Int × Int × Int
  | 0, _, a => ([], a, 0)
  | m + 1, last, a => if getE b a ≠ 0 then ([], 0, getE b a) else if dim - last - 1 ≤ getN b a then ([], 0, 6) else
      if (ixL dim b m (last + getN b a + 1) (getA b a)).2.2 = 0 then ((last + getN b a + 1) :: (ixL dim b m (last + getN b a + 1) (getA b a)).1, (ixL dim b m (last + getN b a + 1) (getA b a)).2.1, 0) else ([], 0, (ixL dim b m (last + getN b a + 1) (getA b a)).2.2)
def gixR (dim : Int) (b : List Int) (a : Int) : List Int × Int × Int :=
  if dim < 1 ∨ 4096 < dim then ([], 0, 1) else if getE b a ≠ 0 then ([], 0, getE b a) else if dim < getN b a then ([], 0, 6) else ixL dim b (getN b a).toNat (-1) (getA b a)
/-- A list ahead of what is read. -/
def withL (O : List Int) (r : List Int × Int × Int) : List Int × Int × Int := if r.2.2 = 0 then (O ++ r.1, r.2.1, 0) else ([], 0, r.2.2)
theorem withL_nil {r : List Int × Int × Int} (h : r.2.2 ≠ 0 → r = ([], 0, r.2.2)) : withL [] r = r := by
  unfold withL
  obtain ⟨x, y, z⟩ := r
  by_cases hz : z = 0
  · subst hz; rfl
  · rw [if_neg hz]; exact (h hz).symm
theorem ixL_bad (dim : Int) (b : List Int) : ∀ (m : Nat) (last a : Int), (ixL dim b m last a).2.2 ≠ 0 → ixL dim b m last a = ([], 0, (ixL dim b m last a).2.2)
  | 0, last, a, h => by simp [ixL] at h
  | m + 1, last, a, h => by
    rw [ixL] at h ⊢
    split
    · rfl
    · split
      · rfl
      · split
        · rename_i h1 h2 h3
          rw [if_neg h1, if_neg h2, if_pos h3] at h
          simp at h
        · rfl
theorem withL_end (dim : Int) (b : List Int) (O : List Int) (last a : Int) : withL O (ixL dim b 0 last a) = (O, a, 0) := by
  unfold withL ixL; simp
theorem withL_err {dim : Int} {b : List Int} {m : Nat} {O : List Int} {last a : Int} (h : getE b a ≠ 0) : withL O (ixL dim b (m + 1) last a) = ([], 0, getE b a) := by
  unfold withL
  rw [ixL, if_pos h, if_neg h]
theorem withL_form {dim : Int} {b : List Int} {m : Nat} {O : List Int} {last a : Int} (h : getE b a = 0) (h2 : dim - last - 1 ≤ getN b a) : withL O (ixL dim b (m + 1) last a) = ([], 0, 6) := by
  have h1 : ¬ getE b a ≠ 0 := fun hn => hn h
  rw [ixL, if_neg h1, if_pos h2]
  rfl
theorem withL_step {dim : Int} {b : List Int} {m : Nat} {O : List Int} {last a : Int} (h : getE b a = 0) (h2 : getN b a < dim - last - 1) :
    withL O (ixL dim b (m + 1) last a) = withL (O ++ [last + getN b a + 1]) (ixL dim b m (last + getN b a + 1) (getA b a)) := by
  rw [ixL, if_neg (by omega), if_neg (by omega)]
  by_cases h3 : (ixL dim b m (last + getN b a + 1) (getA b a)).2.2 = 0
  · rw [if_pos h3]
    unfold withL
    rw [if_pos h3]
    simp
  · rw [if_neg h3]
    unfold withL
    rw [if_neg h3, if_neg h3]
/-- Numbers at places. -/
def spF (l v : List Int) (j : Int) : Int := (l.zip v).foldl (fun acc p => if j = p.1 then p.2 else acc) 0
def spE (dim : Int) (l v : List Int) : Int := if chkE dim l = 0 then (if l.length = v.length then 0 else 4) else chkE dim l
def spV (dim : Int) (l v : List Int) : List Int := if spE dim l v = 0 then (upI dim.toNat).map (spF l v) else []
theorem spF_snoc {l v : List Int} (h : l.length = v.length) (n x j : Int) : spF (l ++ [n]) (v ++ [x]) j = if j = n then x else spF l v j := by
  unfold spF
  rw [List.zip_append h, List.foldl_append]
  rfl
theorem spF_step {l v : List Int} {k : Nat} {n x : Int} (hn : l[k]? = some n) (hx : v[k]? = some x) (j : Int) : spF (l.take (k + 1)) (v.take (k + 1)) j = if j = n then x else spF (l.take k) (v.take k) j := by
  have h1 := (List.getElem?_eq_some_iff.1 hn).1
  have h2 := (List.getElem?_eq_some_iff.1 hx).1
  rw [take_snoc hn, take_snoc hx]
  exact spF_snoc (by rw [List.length_take, List.length_take]; omega) n x j
theorem spF_out {l v : List Int} {j : Int} (h : j ∉ l) : spF l v j = 0 := by
  unfold spF
  have key : ∀ (ps : List (Int × Int)) (a : Int), (∀ p ∈ ps, j ≠ p.1) → ps.foldl (fun acc p => if j = p.1 then p.2 else acc) a = a := by
    intro ps
    induction ps with
    | nil => intro a _; rfl
    | cons p ps ih =>
      intro a hp
      rw [List.foldl_cons, if_neg (hp p (by simp)), ih a (fun q hq => hp q (by simp [hq]))]
  exact key _ 0 fun p hp e => h (by rw [e]; exact (List.of_mem_zip hp).1)
theorem spF_at {l v : List Int} (hr : risP l) : ∀ (k : Nat) (i : Nat) (n x : Int), i < k → l[i]? = some n → v[i]? = some x → k ≤ l.length → k ≤ v.length → spF (l.take k) (v.take k) n = x := by
  intro k
  induction k with
  | zero => intro i n x h; omega
  | succ k ih =>
    intro i n x h hn hx h1 h2
    have hk1 : l[k]? = some l[k] := List.getElem?_eq_getElem (by omega)
    have hk2 : v[k]? = some v[k] := List.getElem?_eq_getElem (by omega)
    rw [spF_step hk1 hk2]
    by_cases hik : i = k
    · subst hik
      rw [hn] at hk1
      rw [hx] at hk2
      injection hk1 with e1
      injection hk2 with e2
      rw [if_pos e1, ← e2]
    · have := ris_iff.1 hr i k n l[k] hn hk1 (by omega)
      rw [if_neg (by omega)]
      exact ih i n x (by omega) hn hx (by omega) (by omega)
theorem spF_in {l v : List Int} (hr : risP l) (hl : l.length = v.length) {i : Nat} {n x : Int} (hn : l[i]? = some n) (hx : v[i]? = some x) : spF l v n = x := by
  have h := spF_at hr l.length i n x (List.getElem?_eq_some_iff.1 hn).1 hn hx (Nat.le_refl _) (by omega)
  rwa [List.take_length, hl, List.take_length] at h
/-- Numbers from places. -/
def gatP (l v : List Int) : Prop := risP l ∧ ∀ n ∈ l, 0 ≤ n ∧ n < v.length
instance (l v : List Int) : Decidable (gatP l v) := by unfold gatP; infer_instance
def gatE (l v : List Int) : Int := if gatP l v then 0 else 1
def gatV (l v : List Int) : List Int := if gatE l v = 0 then l.map (fun n => v.getD n.toNat 0) else []
theorem gat_ok {l v : List Int} : gatE l v = 0 ↔ gatP l v := by unfold gatE; split <;> simp_all
theorem gat_no {l v : List Int} (h : ¬ gatP l v) : gatE l v = 1 := if_neg h
/-- Lists together. -/
def insI (out : List Int) (n : Int) : List Int := if n ∈ out then out else out.filter (fun m => decide (m < n)) ++ [n] ++ out.filter (fun m => decide (n < m))
def mrgF (out l : List Int) : List Int := l.foldl insI out
def mrgV (ls : List (List Int)) : List Int := mrgF [] ls.flatten
theorem ins_mem {out : List Int} {n x : Int} : x ∈ insI out n ↔ x = n ∨ x ∈ out := by
  unfold insI
  split
  · rename_i h
    constructor
    · intro h2; exact Or.inr h2
    · rintro (rfl | h2)
      · exact h
      · exact h2
  · rw [List.mem_append, List.mem_append, List.mem_filter, List.mem_filter, List.mem_singleton, decide_eq_true_eq, decide_eq_true_eq]
    constructor
    · rintro ((⟨h, _⟩ | h) | ⟨h, _⟩)
      · exact Or.inr h
      · exact Or.inl h
      · exact Or.inr h
    · rintro (h | h)
      · exact Or.inl (Or.inr h)
      · by_cases h1 : x < n
        · exact Or.inl (Or.inl ⟨h, h1⟩)
        · by_cases h2 : x = n
          · exact Or.inl (Or.inr h2)
          · exact Or.inr ⟨h, by omega⟩
theorem ins_ris {out : List Int} (h : risP out) (n : Int) : risP (insI out n) := by
  unfold insI
  split
  · exact h
  · unfold risP
    rw [List.pairwise_append, List.pairwise_append]
    refine ⟨⟨ris_filter h _, List.pairwise_singleton _ _, ?_⟩, ris_filter h _, ?_⟩
    · intro a ha b hb
      rw [List.mem_filter, decide_eq_true_eq] at ha
      rw [List.mem_singleton] at hb
      omega
    · intro a ha b hb
      rw [List.mem_filter, decide_eq_true_eq] at hb
      rw [List.mem_append, List.mem_filter, List.mem_singleton, decide_eq_true_eq] at ha
      rcases ha with ha | ha <;> omega
theorem mrg_ris : ∀ (l out : List Int), risP out → risP (mrgF out l)
  | [], out, h => h
  | n :: l, out, h => mrg_ris l (insI out n) (ins_ris h n)
theorem mrg_mem : ∀ (l out : List Int) (x : Int), x ∈ mrgF out l ↔ x ∈ out ∨ x ∈ l
  | [], out, x => by simp [mrgF]
  | n :: l, out, x => by
    have := mrg_mem l (insI out n) x
    show x ∈ mrgF (insI out n) l ↔ _
    rw [this, ins_mem, List.mem_cons]
    constructor
    · rintro ((h | h) | h)
      · exact Or.inr (Or.inl h)
      · exact Or.inl h
      · exact Or.inr (Or.inr h)
    · rintro (h | h | h)
      · exact Or.inl (Or.inr h)
      · exact Or.inl (Or.inl h)
      · exact Or.inr h
theorem mrgV_ris (ls : List (List Int)) : risP (mrgV ls) := mrg_ris _ _ ris_nil
theorem mrgV_mem {ls : List (List Int)} {x : Int} : x ∈ mrgV ls ↔ ∃ l ∈ ls, x ∈ l := by
  unfold mrgV
  rw [mrg_mem, List.mem_flatten]
  simp
theorem mrgV_eq {ls : List (List Int)} {m : List Int} (hr : risP m) (h : ∀ x, x ∈ m ↔ ∃ l ∈ ls, x ∈ l) : m = mrgV ls := ris_eq hr (mrgV_ris ls) fun x => by rw [h, mrgV_mem]
theorem mrg_snoc (out l : List Int) (n : Int) : mrgF out (l ++ [n]) = insI (mrgF out l) n := by unfold mrgF; rw [List.foldl_append]; rfl
/-- Where a number stands, or would. -/
def hasI (l : List Int) (n : Int) : Nat := l.findIdx fun x => decide (n ≤ x)
def hasB (l : List Int) (n : Int) : Bool := decide (n ∈ l)
theorem has_at {l : List Int} {i : Nat} {x n : Int} (hr : risP l) (hx : l[i]? = some x) (hn : n ≤ x) (h : ∀ y ∈ l.take i, y < n) : hasI l n = i ∧ hasB l n = (x == n) := by
  obtain ⟨hi, rfl⟩ := List.getElem?_eq_some_iff.1 hx
  constructor
  · unfold hasI
    rw [List.findIdx_eq hi]
    refine ⟨by simpa using hn, fun j hj => ?_⟩
    have := h l[j] (by rw [List.mem_take_iff_getElem]; exact ⟨j, by omega, rfl⟩)
    simpa using this
  · unfold hasB
    by_cases he : l[i] = n
    · rw [decide_eq_true (by rw [← he]; exact List.getElem_mem hi)]
      simp [he]
    · rw [decide_eq_false]
      · simp [he]
      · intro hm
        obtain ⟨j, hj, hjn⟩ := List.getElem_of_mem hm
        by_cases h1 : j < i
        · have := h l[j] (by rw [List.mem_take_iff_getElem]; exact ⟨j, by omega, rfl⟩)
          omega
        · by_cases h2 : j = i
          · subst h2; exact he hjn
          · have := ris_iff.1 hr i j _ _ (List.getElem?_eq_getElem hi) (List.getElem?_eq_getElem hj) (by omega)
            omega
theorem has_off {l : List Int} {n : Int} (h : ∀ y ∈ l, y < n) : hasI l n = l.length ∧ hasB l n = false := by
  constructor
  · unfold hasI
    rw [List.findIdx_eq_length]
    intro x hx
    have := h x hx
    simpa using this
  · unfold hasB
    rw [decide_eq_false]
    intro hm
    have := h n hm
    omega
end Go.Proofs.Ytgdkmgepconnpaa
