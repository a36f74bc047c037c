
/- Plain mathematics of vectors: sizes, the greatest, products. -/
import Derived.Test.YtmljhckbeoalgaaVecM
namespace Go.Proofs.Ytmljhckbeoalgaa
set_option linter.unusedVariables false
def sm (f : Nat → Int) : Nat → Int
  | 0 => 0
  | n + 1 => sm f n + f n
theorem tot_zero {num : Nat → Int × Int} : ∀ {n : Nat}, (tot num n).2 = 0 → (∀ k, k < n → (num k).2 = 0) ∧ (tot num n).1 = sm (fun k => (num k).1) n
  | 0, _ => ⟨fun k hk => absurd hk (by omega), rfl⟩
  | n + 1, h => by
    unfold tot at h ⊢
    by_cases h1 : (tot num n).2 = 0
    · obtain ⟨a, b⟩ := tot_zero h1
      rw [if_pos h1] at h ⊢
      by_cases h2 : (num n).2 = 0
      · rw [if_pos h2] at h ⊢
        have hi := ckE_zero.1 h
        refine ⟨fun k hk => ?_, ?_⟩
        · by_cases e : k = n
          · rw [e]; exact h2
          · exact a k (by omega)
        · show ckV _ = _
          rw [ckV_in hi, b]; rfl
      · rw [if_neg h2] at h; exact absurd h h2
    · rw [if_neg h1] at h; exact absurd h h1
theorem tot_mk {num : Nat → Int × Int} : ∀ {n : Nat}, (∀ k, k < n → (num k).2 = 0) → (∀ k, k ≤ n → I64 (sm (fun k => (num k).1) k)) → tot num n = (sm (fun k => (num k).1) n, 0)
  | 0, _, _ => rfl
  | n + 1, h, hi => by
    have ih := tot_mk (num := num) (n := n) (fun k hk => h k (by omega)) (fun k hk => hi k (by omega))
    have := hi (n + 1) (Nat.le_refl _)
    unfold tot
    rw [ih]
    simp only [if_pos, h n (by omega)]
    have e : sm (fun k => (num k).1) n + (num n).1 = sm (fun k => (num k).1) (n + 1) := rfl
    rw [e, ckV_in this, ckE_in this]
theorem sm_ext {f g : Nat → Int} : ∀ {n : Nat}, (∀ k, k < n → f k = g k) → sm f n = sm g n
  | 0, _ => rfl
  | n + 1, h => by
    unfold sm
    rw [sm_ext (n := n) fun k hk => h k (by omega), h n (by omega)]
theorem sm_nonneg {f : Nat → Int} : ∀ {n : Nat}, (∀ k, k < n → 0 ≤ f k) → 0 ≤ sm f n
  | 0, _ => Int.le_refl _
  | n + 1, h => by
    have := sm_nonneg (f := f) (n := n) fun k hk => h k (by omega)
    have := h n (by omega)
    unfold sm; omega
theorem sm_ge {f : Nat → Int} : ∀ {n : Nat}, (∀ k, k < n → 0 ≤ f k) → ∀ k, k < n → f k ≤ sm f n
  | 0, _, k, hk => absurd hk (by omega)
  | n + 1, h, k, hk => by
    have h0 := sm_nonneg (f := f) (n := n) fun k hk => h k (by omega)
    unfold sm
    by_cases e : k = n
    · subst e; omega
    · have := sm_ge (f := f) (n := n) (fun k hk => h k (by omega)) k (by omega)
      have := h n (by omega)
      omega
theorem sm_bound {f : Nat → Int} {m : Int} : ∀ {n : Nat}, (∀ k, k < n → -m ≤ f k ∧ f k ≤ m) → -(m * n) ≤ sm f n ∧ sm f n ≤ m * n
  | 0, _ => by simp [sm]
  | n + 1, h => by
    have a := sm_bound (f := f) (n := n) fun k hk => h k (by omega)
    have b := h n (by omega)
    have e : m * ((n + 1 : Nat) : Int) = m * n + m := by rw [Int.natCast_add, Int.mul_add]; simp
    unfold sm
    rw [e]; omega
theorem le_mx {xs : List Int} {x : Int} (h : x ∈ xs) : x ≤ mx xs := by
  have key : ∀ (l : List Int) (a : Int), x ∈ l → x ≤ l.foldl max a := by
    intro l
    induction l with
    | nil => intro a h; simp at h
    | cons y l ih =>
      intro a h
      rw [List.foldl_cons]
      rcases List.mem_cons.1 h with rfl | h
      · have := mx_ge l (max a x); omega
      · exact ih _ h
  exact key xs 0 h
theorem mx_mem (xs : List Int) : mx xs = 0 ∨ mx xs ∈ xs := by
  have key : ∀ (l : List Int) (a : Int), l.foldl max a = a ∨ l.foldl max a ∈ l := by
    intro l
    induction l with
    | nil => intro a; left; rfl
    | cons y l ih =>
      intro a
      rw [List.foldl_cons]
      rcases ih (max a y) with h | h
      · rw [h]
        by_cases e : a < y
        · right; rw [Int.max_eq_right (by omega)]; simp
        · left; exact Int.max_eq_left (by omega)
      · right; exact List.mem_cons_of_mem _ h
  exact key xs 0
theorem mx_nonneg (xs : List Int) : 0 ≤ mx xs := mx_ge xs 0
theorem absI_bd {x m : Int} (h : absI x ≤ m) : -m ≤ x ∧ x ≤ m := by unfold absI at h; split at h <;> omega
theorem absI_pos (x : Int) : 0 ≤ absI x := by unfold absI; split <;> omega
theorem seqE_two {num : Nat → Int × Int} (h : ∀ k, (num k).2 = 0 ∨ (num k).2 = 2) : ∀ n, seqE num n = 0 ∨ seqE num n = 2
  | 0 => .inl rfl
  | n + 1 => by
    show (if seqE num n = 0 then (num n).2 else seqE num n) = 0 ∨ (if seqE num n = 0 then (num n).2 else seqE num n) = 2
    split
    · exact h n
    · exact seqE_two h n
theorem ckE_two (s : Int) : ckE s = 0 ∨ ckE s = 2 := by unfold ckE; split <;> simp
theorem tot_two {num : Nat → Int × Int} (h : ∀ k, (num k).2 = 0 ∨ (num k).2 = 2) : ∀ n, (tot num n).2 = 0 ∨ (tot num n).2 = 2
  | 0 => .inl rfl
  | n + 1 => by
    have ih := tot_two h n
    unfold tot
    by_cases h1 : (tot num n).2 = 0
    · rw [if_pos h1]
      by_cases h2 : (num n).2 = 0
      · rw [if_pos h2]; exact ckE_two _
      · rw [if_neg h2]; exact h n
    · rw [if_neg h1]; exact ih
theorem bounds_bad {v : List Int} (h : mostE v ≠ 0) : sizeE v = mostE v := by
  unfold mostE at h ⊢
  unfold sizeE
  by_cases hn : 4096 < v.length
  · rw [if_pos hn, (un_long hn 0 (numA v)).1]
  · rw [(un_ok hn (numA v)).1] at h ⊢
    rw [if_neg hn]
    have h2 : ∀ k, (numA v k).2 = 0 ∨ (numA v k).2 = 2 := fun k => ckE_two _
    have e1 : seqE (numA v) v.length = 2 := by rcases seqE_two h2 v.length with e | e; exact absurd e h; exact e
    rw [e1]
    rcases tot_two h2 v.length with e | e
    · exact absurd (seqE_zero.2 (tot_zero e).1) h
    · exact e
theorem tot_i64 (num : Nat → Int × Int) (h : ∀ k, I64 (num k).1) : ∀ n, I64 (tot num n).1
  | 0 => (by decide : I64 0)
  | n + 1 => by
    have ih := tot_i64 num h n
    unfold tot
    by_cases h1 : (tot num n).2 = 0
    · rw [if_pos h1]
      by_cases h2 : (num n).2 = 0
      · rw [if_pos h2]; exact ckV_i64 _
      · rw [if_neg h2]; exact (by decide : I64 0)
    · rw [if_neg h1]; exact ih
structure Bounds (v : List Int) (m s : Int) : Prop where
  len : v.length ≤ 4096
  each : ∀ (k : Nat) (x : Int), v[k]? = some x → -m ≤ x ∧ x ≤ m
  pos : 0 ≤ m
  top : m ≤ 9223372036854775807
  le : m ≤ s
  stop : s ≤ 9223372036854775807
  most : s ≤ m * v.length
  met : m = 0 ∨ ∃ (k : Nat) (x : Int), v[k]? = some x ∧ (x = m ∨ x = -m)
  fine : unE (clipE m) (numC v m) v.length = 0
  same : unV (clipE m) (numC v m) v.length = v
theorem i64_le {x : Int} (h : I64 x) : x ≤ 9223372036854775807 := h.2
theorem bounds_ok {v : List Int} (he : mostE v = 0) (hf : sizeE v = 0) : Bounds v (mostV v) (sizeV v) := by
  have hn : ¬ 4096 < v.length := fun h => by unfold sizeE at hf; rw [if_pos h] at hf; cases hf
  have hf2 : (tot (numA v) v.length).2 = 0 := by unfold sizeE at hf; rwa [if_neg hn] at hf
  obtain ⟨h0, hs⟩ := tot_zero hf2
  have hk : ∀ k, k < v.length → (numA v k).1 = absI (v.getD k 0) := fun k hk => ckV_in (ckE_zero.1 (h0 k hk))
  have es : sizeV v = sm (fun k => absI (v.getD k 0)) v.length := by
    unfold sizeV
    rw [if_neg hn, hs]
    exact sm_ext hk
  have em : unV 0 (numA v) v.length = (List.range v.length).map fun k => absI (v.getD k 0) := by
    rw [(un_ok hn (numA v)).2]
    unfold seqV
    rw [if_pos (seqE_zero.2 h0)]
    exact map_range_ext hk
  have hm : ∀ k, k < v.length → absI (v.getD k 0) ≤ mostV v := fun k hk => by
    unfold mostV
    rw [em]
    exact le_mx (List.mem_map.2 ⟨k, by simpa using hk, rfl⟩)
  have hm0 : 0 ≤ mostV v := mx_nonneg _
  have im : I64 (mostV v) := mx_i64 (unV_i64 fun k _ => ckV_i64 _) 0 (by decide)
  have hmem := mx_mem (unV 0 (numA v) v.length)
  rw [em] at hmem
  have hmv : mostV v = mx ((List.range v.length).map fun k => absI (v.getD k 0)) := by unfold mostV; rw [em]
  rw [← hmv] at hmem
  have hlt : ∀ {k x}, v[k]? = some x → k < v.length := fun h => (List.getElem?_eq_some_iff.1 h).1
  have hc0 : clipE (mostV v) = 0 := if_neg (by omega)
  have hcl : ∀ k, k < v.length → (numC v (mostV v) k) = (v.getD k 0, 0) := fun k hk => by
    have := absI_bd (hm k hk)
    unfold numC clipV
    rw [hc0, if_neg (by omega), if_neg (by omega), if_neg (by omega)]
  refine ⟨by omega, fun k x hx => ?_, hm0, im.2, ?_, ?_, ?_, ?_, ?_, ?_⟩
  · have := hm k (hlt hx)
    rw [getD_of hx] at this
    exact absI_bd this
  · rw [es]
    rcases hmem with h | h
    · rw [h]; exact sm_nonneg fun k _ => absI_pos _
    · obtain ⟨k, hk, e⟩ := List.mem_map.1 h
      rw [← e]
      exact sm_ge (f := fun k => absI (v.getD k 0)) (fun k _ => absI_pos _) k (by simpa using hk)
  · have : I64 (sizeV v) := by
      unfold sizeV
      rw [if_neg hn]
      exact tot_i64 _ (fun k => ckV_i64 _) _
    exact this.2
  · rw [es]
    exact (sm_bound fun k hk => ⟨by have := absI_pos (v.getD k 0); omega, hm k hk⟩).2
  · rcases hmem with h | h
    · left; exact h
    · right
      obtain ⟨k, hk, e⟩ := List.mem_map.1 h
      have hkl : k < v.length := by simpa using hk
      refine ⟨k, v.getD k 0, by simp [List.getD, hkl], ?_⟩
      have e' : absI (v.getD k 0) = mostV v := e
      unfold absI at e'
      split at e' <;> omega
  · rw [hc0, (un_ok hn _).1]
    exact seqE_zero.2 fun k hk => by rw [hcl k hk]
  · rw [hc0, (un_ok hn _).2]
    unfold seqV
    rw [if_pos (seqE_zero.2 fun k hk => by rw [hcl k hk])]
    conv => rhs; rw [← range_getD v]
    exact map_range_ext fun k hk => by rw [hcl k hk]
theorem twoE_comm (n m : Nat) : twoE n m = twoE m n := by
  unfold twoE
  by_cases h : 4096 < n ∨ 4096 < m
  · rw [if_pos h, if_pos (show 4096 < m ∨ 4096 < n by omega)]
  · rw [if_neg h, if_neg (show ¬ (4096 < m ∨ 4096 < n) by omega)]
    by_cases e : n = m
    · subst e; rfl
    · rw [if_neg e, if_neg (show ¬ m = n by omega)]
theorem numD_comm (xs ys : List Int) (m : Int) : numD xs ys m = numD ys xs m := by
  funext k
  unfold numD mulV mulE
  rw [Int.mul_comm]
theorem dot_comm (xs ys : List Int) (m : Int) : dotV xs ys m = dotV ys xs m ∧ dotE xs ys m = dotE ys xs m := by
  unfold dotV dotE
  rw [twoE_comm, numD_comm]
  by_cases ht : twoE ys.length xs.length = 0
  · rw [if_pos ht, if_pos ht, if_pos ht, if_pos ht, (twoE_ok ht).2]
    exact ⟨rfl, rfl⟩
  · rw [if_neg ht, if_neg ht, if_neg ht, if_neg ht]
    exact ⟨rfl, rfl⟩
theorem dot_self {xs : List Int} {m : Int} (h : dotE xs xs m = 0) : 0 ≤ dotV xs xs m := by
  unfold dotE at h
  unfold dotV
  by_cases ht : twoE xs.length xs.length = 0
  · rw [if_pos ht] at h ⊢
    by_cases hq : behE m = 0
    · rw [if_pos hq] at h ⊢
      rw [(tot_zero h).2]
      refine sm_nonneg fun k _ => ?_
      show 0 ≤ mulV (xs.getD k 0) (xs.getD k 0) m
      have hm : ¬ (m < 0 ∨ 30 < m) := fun h' => by unfold behE at hq; rw [if_pos h'] at hq; cases hq
      unfold mulV
      rw [if_neg hm]
      have h1 : 0 ≤ xs.getD k 0 * xs.getD k 0 / 2 ^ m.toNat := Int.ediv_nonneg (by rcases Int.le_total 0 (xs.getD k 0) with h | h; exact Int.mul_nonneg h h; exact Int.mul_nonneg_of_nonpos_of_nonpos h h) (Int.le_of_lt (Int.pow_pos (by decide)))
      unfold ckV
      split <;> omega
    · rw [if_neg hq] at h; exact absurd h hq
  · rw [if_neg ht] at h; exact absurd h ht
theorem zero_len {n : Nat} (h : n ≤ 4096) : zeroE n = 0 ∧ (zeroV n).length = n := by
  unfold zeroE zeroV
  rw [if_neg (by omega), if_neg (by omega)]
  simp
theorem zero_long {n : Nat} (h : ¬ n ≤ 4096) : zeroE n = 1 ∧ zeroV n = [] := by
  unfold zeroE zeroV
  rw [if_pos (by omega), if_pos (by omega)]
  exact ⟨rfl, rfl⟩
theorem dot_ones {xs ones : List Int} (hn : xs.length ≤ 4096) (hl : ones.length = xs.length) (h1 : ∀ k, k < ones.length → ones.getD k 0 = 1) (hb : ∀ k, k < xs.length → -1099511627776 ≤ xs.getD k 0 ∧ xs.getD k 0 ≤ 1099511627776) :
    dotE xs ones 0 = 0 ∧ dotV xs ones 0 = sm (fun k => xs.getD k 0) xs.length := by
  have hk : ∀ k, k < xs.length → numD xs ones 0 k = (xs.getD k 0, 0) := fun k hk => by
    have b := hb k hk
    have e : xs.getD k 0 * 1 / 2 ^ (0 : Int).toNat = xs.getD k 0 := by rw [Int.mul_one]; simp
    have hi : I64 (xs.getD k 0) := by unfold I64; omega
    unfold numD mulV mulE
    rw [h1 k (by omega), if_neg (by omega), if_neg (by omega), e, ckV_in hi, ckE_in hi]
  have hs : ∀ k, k ≤ xs.length → sm (fun k => (numD xs ones 0 k).1) k = sm (fun k => xs.getD k 0) k := fun k hk' => sm_ext fun j hj => by rw [hk j (by omega)]
  have ht := tot_mk (num := numD xs ones 0) (n := xs.length) (fun k hk' => by rw [hk k hk']) fun k hk' => by
    rw [hs k hk']
    have := sm_bound (f := fun k => xs.getD k 0) (m := 1099511627776) (n := k) fun j hj => hb j (by omega)
    unfold I64; omega
  unfold dotE dotV
  rw [if_pos (twoE_mk hn hl), if_pos (twoE_mk hn hl), show behE 0 = 0 from rfl, if_pos rfl, if_pos rfl, ht]
  exact ⟨rfl, hs _ (Nat.le_refl _)⟩
theorem un_mk {num : Nat → Int × Int} {n : Nat} (hn : n ≤ 4096) (h : ∀ k, k < n → (num k).2 = 0) : unE 0 num n = 0 ∧ unV 0 num n = (List.range n).map fun k => (num k).1 := by
  have h' : ¬ 4096 < n := by omega
  rw [(un_ok h' num).1, (un_ok h' num).2]
  refine ⟨seqE_zero.2 h, ?_⟩
  unfold seqV
  rw [if_pos (seqE_zero.2 h)]
theorem mul_ok {a b : Int} {m : Nat} (hm : m ≤ 30) {c : Int} (h : a * b / 2 ^ m = c) (hc : I64 c) : mulV a b m = c ∧ mulE a b m = 0 := by
  unfold mulV mulE
  rw [if_neg (by omega), if_neg (by omega), show ((m : Nat) : Int).toNat = m from Int.toNat_natCast m, h, ckV_in hc, ckE_in hc]
  exact ⟨rfl, rfl⟩
theorem beh_ok {m : Nat} (hm : m ≤ 30) : behE m = 0 := if_neg (by omega)
theorem scale_self {a : List Int} (ia : I64s a) (hn : a.length ≤ 4096) {m : Nat} (hm : m ≤ 30) {P : Int} (hP : (2 : Int) ^ m = P) : unE (behE m) (numS a P m) a.length = 0 ∧ unV (behE m) (numS a P m) a.length = a := by
  rw [beh_ok hm]
  have hk : ∀ k, k < a.length → numS a P m k = (a.getD k 0, 0) := fun k hk => by
    have := mul_ok (a := a.getD k 0) (b := P) hm (c := a.getD k 0) (by rw [hP]; exact Int.mul_ediv_cancel _ (by rw [← hP]; exact Int.ne_of_gt (Int.pow_pos (by decide)))) (i64_getD ia hk)
    unfold numS
    rw [this.1, this.2]
  have := un_mk (num := numS a P m) hn fun k hk' => by rw [hk k hk']
  refine ⟨this.1, ?_⟩
  rw [this.2]
  conv => rhs; rw [← range_getD a]
  exact map_range_ext fun k hk' => by rw [hk k hk']
theorem more_none {a b : List Int} (ia : I64s a) (hn : a.length ≤ 4096) (hl : a.length = b.length) {m : Nat} (hm : m ≤ 30) : moreE a b 0 m = 0 ∧ moreV a b 0 m = a := by
  have hk : ∀ k, k < b.length → numS b 0 m k = (0, 0) := fun k hk => by
    have := mul_ok (a := b.getD k 0) (b := 0) hm (c := 0) (by rw [Int.mul_zero, Int.zero_ediv]) (by decide)
    unfold numS
    rw [this.1, this.2]
  have u := un_mk (num := numS b 0 m) (n := b.length) (by omega) fun k hk' => by rw [hk k hk']
  unfold moreE moreV
  rw [beh_ok hm, u.1, if_pos rfl, if_pos rfl, u.2]
  have hz : ∀ k, k < a.length → ((List.range b.length).map fun k => (numS b 0 m k).1).getD k 0 = 0 := fun k hk' => by
    rw [getD_range (by omega), hk k (by omega)]
  have o := op_mk (f := (· + ·)) (xs := a) (ys := (List.range b.length).map fun k => (numS b 0 m k).1) hn (by simp; omega) fun k hk' => by
    show I64 (_ + _)
    rw [hz k hk', Int.add_zero]
    exact i64_getD ia hk'
  refine ⟨o.1, ?_⟩
  rw [o.2]
  conv => rhs; rw [← range_getD a]
  exact map_range_ext fun k hk' => by rw [hz k hk', Int.add_zero]
theorem twice_same {a b : List Int} (h1 : opE (· + ·) a b = 0) (h2 : opE (· + ·) (opV (· + ·) a b) b = 0) (h3 : moreE a b 2 0 = 0) : opV (· + ·) (opV (· + ·) a b) b = moreV a b 2 0 := by
  obtain ⟨a1, a2, a3, a4⟩ := op_ok h1
  obtain ⟨b1, b2, b3, b4⟩ := op_ok h2
  have hl : (opV (· + ·) a b).length = a.length := by rw [a4]; simp
  rw [b4, hl]
  unfold moreE at h3
  unfold moreV
  by_cases hu : unE (behE 0) (numS b 2 0) b.length = 0
  · rw [if_pos hu] at h3 ⊢
    obtain ⟨c1, c2, c3, c4⟩ := op_ok h3
    rw [c4]
    refine map_range_ext fun k hk => ?_
    have hu2 : ∀ k, k < b.length → (numS b 2 0 k).2 = 0 := by
      have hn : ¬ 4096 < b.length := by omega
      rw [show behE 0 = 0 from rfl, (un_ok hn _).1] at hu
      exact fun k hk => seqE_zero.1 hu k hk
    have e : (unV (behE 0) (numS b 2 0) b.length).getD k 0 = b.getD k 0 * 2 := by
      have hn : ¬ 4096 < b.length := by omega
      rw [show behE 0 = 0 from rfl] at hu ⊢
      rw [(un_ok hn _).1] at hu
      rw [(un_ok hn _).2]
      unfold seqV
      rw [if_pos hu, getD_range (by omega)]
      have hk2 := hu2 k (by omega)
      unfold numS mulV mulE at hk2 ⊢
      simp only [show ¬ ((0 : Int) < 0 ∨ (30 : Int) < 0) by omega, if_false, show (0 : Int).toNat = 0 from rfl, Int.pow_zero, Int.ediv_one] at hk2 ⊢
      exact ckV_in (ckE_zero.1 hk2)
    rw [a4, getD_range hk, e]
    omega
  · rw [if_neg hu] at h3; exact absurd h3 hu
end Go.Proofs.Ytmljhckbeoalgaa
