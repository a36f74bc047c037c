
/- What was put is got, what was got was put; spread, gathered, left: plain mathematics. -/
import Derived.Test.YtgdkmgepconnpaaIxM
namespace Go.Proofs.Ytgdkmgepconnpaa
set_option linter.unusedVariables false
theorem pixV_u8 (dim : Int) (l : List Int) : U8s (pixV dim l) := by
  unfold pixV
  split
  · rename_i h; exact encs_u8 (putL_u64 (chk_ok.1 h))
  · intro x hx; simp at hx
theorem pixV_len (dim : Int) (l : List Int) : (pixV dim l).length ≤ 41000 := by
  unfold pixV
  split
  · rename_i h
    have hp := chk_ok.1 h
    have h1 := encs_len (putL_u64 hp)
    have h2 := plc_le hp
    have h3 := hp.2.1
    unfold putL at h1 ⊢
    rw [List.length_cons, gaps_len] at h1
    omega
  · simp
theorem ixL_put {dim : Int} {b behind : List Int} (hd : dim ≤ 4096) : ∀ (l : List Int) (last : Int) (ahead : List Int), risP (last :: l) → -1 ≤ last → (∀ n ∈ l, n < dim) → b = ahead ++ (encs (gapsF last l) ++ behind) →
    ixL dim b l.length last ahead.length = (l, (((ahead ++ encs (gapsF last l)).length : Nat) : Int), 0)
  | [], last, ahead, _, _, _, hb => by simp [ixL, gapsF, encs]
  | n :: l, last, ahead, hr, hl, hn, hb => by
    have hn1 := hn n (by simp)
    have hlt : last < n := (List.pairwise_cons.1 hr).1 n (by simp)
    rw [gapsF, encs_cons] at hb
    have hu : U64 (n - last - 1) := by unfold U64; omega
    have hb' : b = ahead ++ (lebI (n - last - 1) ++ (encs (gapsF n l) ++ behind)) := by rw [hb]; simp
    obtain ⟨e1, e2, e3⟩ := get_at hu ahead _ hb'
    have ih := ixL_put (b := b) (behind := behind) hd l n (ahead ++ lebI (n - last - 1)) (List.pairwise_cons.1 hr).2 (by omega) (fun m hm => hn m (by simp [hm])) (by rw [hb']; simp)
    rw [List.length_cons, ixL]
    have h1 : ¬ getE b (ahead.length : Int) ≠ 0 := fun h => h e2
    rw [if_neg h1, e1, if_neg (by omega), show last + (n - last - 1) + 1 = n by omega, e3]
    rw [List.length_append, Int.natCast_add] at ih
    rw [ih]
    simp [gapsF, encs_cons]
theorem gix_put {dim : Int} {l ahead behind b : List Int} (h : chkE dim l = 0) (hb : b = ahead ++ (pixV dim l ++ behind)) : gixR dim b ahead.length = (l, (((ahead ++ pixV dim l).length : Nat) : Int), 0) := by
  have hp := chk_ok.1 h
  have h1 := hp.1
  have h2 := hp.2.1
  have h3 := plc_le hp
  have e : pixV dim l = lebI (l.length : Int) ++ encs (gapsF (-1) l) := by unfold pixV; rw [if_pos h]; unfold putL; rw [encs_cons]
  rw [e] at hb ⊢
  have hu : U64 (l.length : Int) := by unfold U64; omega
  have hb' : b = ahead ++ (lebI (l.length : Int) ++ (encs (gapsF (-1) l) ++ behind)) := by rw [hb]; simp
  obtain ⟨e1, e2, e3⟩ := get_at hu ahead _ hb'
  have h4 := ixL_put (b := b) (behind := behind) h2 l (-1) (ahead ++ lebI (l.length : Int)) (plc_cons hp) (by omega) (fun n hn => (hp.2.2.2 n hn).2) (by rw [hb']; simp)
  unfold gixR
  have hne : ¬ getE b (ahead.length : Int) ≠ 0 := fun h => h e2
  rw [if_neg (by omega), if_neg hne, e1, if_neg (by omega), Int.toNat_natCast, e3]
  rw [List.length_append, Int.natCast_add] at h4
  rw [h4]
  simp
theorem ixL_back {dim : Int} {b : List Int} (ub : U8s b) : ∀ (m : Nat) (last : Int) (k : Nat) (l : List Int) (a' : Int), ixL dim b m last k = (l, a', 0) → k ≤ b.length → last < dim → l.length = m ∧ risP (last :: l) ∧ (∀ n ∈ l, n < dim) ∧
    ∃ j : Nat, k + j ≤ b.length ∧ a' = ((k + j : Nat) : Int) ∧ (b.drop k).take j = encs (gapsF last l)
  | 0, last, k, l, a', h, hk, hl => by
    rw [ixL] at h
    simp only [Prod.mk.injEq, and_true] at h
    obtain ⟨rfl, rfl⟩ := h
    exact ⟨rfl, ris_one _, by intro n hn; simp at hn, 0, by omega, by simp, by simp [gapsF, encs]⟩
  | m + 1, last, k, l, a', h, hk, hl => by
    rw [ixL] at h
    split at h
    · rename_i h1
      simp only [Prod.mk.injEq] at h
      exact absurd h.2.2 h1
    · rename_i h1
      have h1 : getE b k = 0 := by omega
      split at h
      · simp at h
      · rename_i h2
        obtain ⟨_, hu, j1, hj1, hA, ht⟩ := get_ok ub h1
        rw [Int.toNat_natCast] at hj1 hA ht
        rw [hA] at h
        unfold U64 at hu
        split at h
        · rename_i h3
          obtain ⟨l2, a2, e2, hr⟩ : ∃ l2 a2 e2, ixL dim b m (last + getN b k + 1) ((k + j1 : Nat) : Int) = (l2, a2, e2) := ⟨_, _, _, rfl⟩
          rw [hr] at h h3
          simp only at h3
          subst h3
          simp only [Prod.mk.injEq, and_true] at h
          obtain ⟨rfl, rfl⟩ := h
          obtain ⟨i1, i2, i3, j2, i4, i5, i6⟩ := ixL_back ub m _ _ l2 a2 hr hj1 (by omega)
          refine ⟨by rw [List.length_cons, i1], ?_, ?_, j1 + j2, by omega, by rw [i5]; congr 1; omega, ?_⟩
          · refine List.pairwise_cons.2 ⟨fun x hx => ?_, i2⟩
            rcases List.mem_cons.1 hx with rfl | hx
            · omega
            · have := (List.pairwise_cons.1 i2).1 x hx
              omega
          · intro n hn
            rcases List.mem_cons.1 hn with rfl | hn
            · omega
            · exact i3 n hn
          · rw [List.take_add, ht, List.drop_drop, i6, gapsF, encs_cons, show last + getN b k + 1 - last - 1 = getN b k by omega]
        · rename_i h3
          simp only [Prod.mk.injEq] at h
          exact absurd h.2.2 h3
theorem gix_back {dim : Int} {b m : List Int} {a : Int} (ub : U8s b) (h : gixR dim b 0 = (m, a, 0)) : chkE dim m = 0 ∧ ∃ j : Nat, a = j ∧ j ≤ b.length ∧ pixV dim m = b.take j := by
  unfold gixR at h
  split at h
  · simp at h
  · rename_i hd
    split at h
    · rename_i h1
      simp only [Prod.mk.injEq] at h
      exact absurd h.2.2 h1
    · rename_i h1
      have h1 : getE b 0 = 0 := by omega
      split at h
      · simp at h
      · rename_i h2
        obtain ⟨_, hu, j1, hj1, hA, ht⟩ := get_ok ub h1
        unfold U64 at hu
        rw [hA] at h
        rw [Int.toNat_zero] at hj1 ht
        rw [Int.toNat_zero] at h
        obtain ⟨i1, i2, i3, j2, i4, i5, i6⟩ := ixL_back ub _ _ _ m a h (by omega) (by omega)
        have hp : plcP dim m := ⟨by omega, by omega, (List.pairwise_cons.1 i2).2, fun n hn => ⟨by have := (List.pairwise_cons.1 i2).1 n hn; omega, i3 n hn⟩⟩
        refine ⟨chk_ok.2 hp, 0 + j1 + j2, i5, by omega, ?_⟩
        unfold pixV
        rw [if_pos (chk_ok.2 hp)]
        unfold putL
        rw [encs_cons, ← i6]
        rw [List.drop_zero] at ht
        rw [i1, show ((getN b 0).toNat : Int) = getN b 0 by omega, ← ht, Nat.zero_add, List.take_add]
theorem ixL_len (dim : Int) (b : List Int) : ∀ (m : Nat) (last a : Int), (ixL dim b m last a).1.length ≤ m
  | 0, _, _ => by simp [ixL]
  | m + 1, last, a => by
    have h := ixL_len dim b m (last + getN b a + 1) (getA b a)
    rw [ixL]
    split
    · simp
    · split
      · simp
      · split
        · simp; omega
        · simp
theorem gix_len (dim : Int) (b : List Int) (a : Int) : (gixR dim b a).1.length ≤ 4096 := by
  unfold gixR
  split
  · simp
  · split
    · simp
    · split
      · simp
      · have h := ixL_len dim b (getN b a).toNat (-1) (getA b a)
        omega
theorem gix_nil {dim : Int} {b m : List Int} {a a' e : Int} (h : gixR dim b a = (m, a', e)) (he : e ≠ 0) : m = [] := by
  unfold gixR at h
  split at h
  · simp at h; exact h.1
  · split at h
    · simp at h; exact h.1
    · split at h
      · simp at h; exact h.1
      · have hb := ixL_bad dim b (getN b a).toNat (-1) (getA b a) (by rw [h]; exact he)
        rw [h] at hb
        simp at hb
        exact hb.1
theorem mrg_left {K : Nat} {l : List Int} (h : plcP K l) : mrgV [lfF K l, l] = upI K := by
  refine (mrgV_eq (upI_ris K) fun x => ?_).symm
  rw [upI_mem]
  constructor
  · intro hx
    by_cases hm : x ∈ l
    · exact ⟨l, by simp, hm⟩
    · exact ⟨lfF K l, by simp, lfF_mem.2 ⟨hx, hm⟩⟩
  · rintro ⟨m, hm, hx⟩
    simp only [List.mem_cons, List.not_mem_nil, or_false] at hm
    rcases hm with rfl | rfl
    · exact (lfF_mem.1 hx).1
    · exact h.2.2.2 x hx
theorem left_all {dim : Int} {l : List Int} (h : chkE dim l = 0) : ∃ (K : Nat) (m : List Int), dim = K ∧ 1 ≤ K ∧ K ≤ 4096 ∧ lfV dim l = m ∧ chkE dim m = 0 ∧ lfV dim m = l ∧ mrgV [m, l] = upI K ∧ m.length + l.length = K := by
  have hp := chk_ok.1 h
  obtain ⟨K, rfl, h1, h2, _⟩ := plc_sub hp
  have e : lfV K l = lfF K l := by unfold lfV; rw [if_pos h, Int.toNat_natCast]
  have hl := lf_lf hp
  have hc := chk_ok.2 (lf_plc hp)
  have hn := plc_len hp
  rw [e] at hl hc
  exact ⟨K, lfF K l, rfl, h1, h2, e, hc, hl, mrg_left hp, by omega⟩
theorem getD_nat {v : List Int} {n : Nat} {z : Int} (h : v[n]? = some z) : v.getD ((n : Int)).toNat 0 = z := by rw [Int.toNat_natCast, List.getD_eq_getElem?_getD, h]; rfl
theorem gat_plc {l v : List Int} {K : Nat} (h : plcP K l) (hv : v.length = K) : gatP l v := ⟨h.2.2.1, fun n hn => by have := h.2.2.2 n hn; omega⟩
theorem gat_len {l v : List Int} (h : gatE l v = 0) : (gatV l v).length = l.length := by unfold gatV; rw [if_pos h, List.length_map]
theorem gat_at {l v : List Int} (h : gatE l v = 0) {i n : Nat} {z : Int} (hl : l[i]? = some (n : Int)) (hv : v[n]? = some z) : (gatV l v)[i]? = some z := by
  unfold gatV
  rw [if_pos h, List.getElem?_map, hl, Option.map_some, getD_nat hv]
theorem sp_ok {K : Nat} {l v : List Int} (h : chkE K l = 0) (hv : l.length = v.length) : spE K l v = 0 ∧ spV K l v = (upI K).map (spF l v) := by
  have e : spE K l v = 0 := by unfold spE; rw [if_pos h, if_pos hv]
  refine ⟨e, ?_⟩
  unfold spV
  rw [if_pos e, Int.toNat_natCast]
theorem sp_at {K : Nat} {l v : List Int} {n : Nat} (hn : n < K) : ((upI K).map (spF l v))[n]? = some (spF l v n) := by
  rw [List.getElem?_map, upI_at hn]; rfl
/-- What is gathered, and what is gathered elsewhere, spread. -/
theorem spreads {l v : List Int} (h : chkE v.length l = 0) : ∃ m a b x y, v.length ≤ 4096 ∧ lfV v.length l = m ∧ chkE v.length m = 0 ∧ gatV l v = a ∧ gatE l v = 0 ∧ gatV m v = b ∧ gatE m v = 0 ∧
    spV v.length l a = x ∧ spE v.length l a = 0 ∧ spV v.length m b = y ∧ spE v.length m b = 0 ∧ l.length + m.length = v.length ∧ a.length = l.length ∧ b.length = m.length ∧ x.length = v.length ∧ y.length = v.length ∧
    ∀ (n : Nat) (z : Int), v[n]? = some z → (x[n]? = some z ∧ y[n]? = some 0) ∨ (x[n]? = some 0 ∧ y[n]? = some z) := by
  have hp := chk_ok.1 h
  obtain ⟨K, m, hK, _, hK4, e1, e2, e3, _, e5⟩ := left_all h
  have hp2 := chk_ok.1 e2
  have g1 := gat_ok.2 (gat_plc hp rfl)
  have g2 := gat_ok.2 (gat_plc hp2 rfl)
  have l1 := gat_len g1
  have l2 := gat_len g2
  obtain ⟨s1, s2⟩ := sp_ok (v := gatV l v) h (by rw [l1])
  obtain ⟨s3, s4⟩ := sp_ok (v := gatV m v) e2 (by rw [l2])
  refine ⟨m, gatV l v, gatV m v, _, _, by omega, e1, e2, rfl, g1, rfl, g2, s2, s1, s4, s3, by omega, l1, l2, ?_, ?_, ?_⟩
  · rw [List.length_map, upI_len]
  · rw [List.length_map, upI_len]
  · intro n z hz
    have hn : n < v.length := (List.getElem?_eq_some_iff.1 hz).1
    rw [sp_at hn, sp_at hn]
    have hm : (n : Int) ∈ m ↔ (n : Int) ∉ l := by
      rw [← e1]
      unfold lfV
      rw [if_pos h, lfF_mem]
      constructor
      · exact fun h => h.2
      · intro h; exact ⟨⟨by omega, by rw [Int.toNat_natCast]; omega⟩, h⟩
    by_cases hl : (n : Int) ∈ l
    · left
      obtain ⟨i, hi, hin⟩ := List.getElem_of_mem hl
      have hli : l[i]? = some (n : Int) := by rw [List.getElem?_eq_getElem hi, hin]
      rw [spF_in hp.2.2.1 l1.symm hli (gat_at g1 hli hz), spF_out (fun h => hm.1 h hl)]
      exact ⟨rfl, rfl⟩
    · right
      obtain ⟨i, hi, hin⟩ := List.getElem_of_mem (hm.2 hl)
      have hli : m[i]? = some (n : Int) := by rw [List.getElem?_eq_getElem hi, hin]
      rw [spF_in hp2.2.2.1 l2.symm hli (gat_at g2 hli hz), spF_out hl]
      exact ⟨rfl, rfl⟩
/-- What was spread is gathered. -/
theorem spread_back {K : Nat} {l u : List Int} (h : chkE K l = 0) (hu : l.length = u.length) : spE K l u = 0 ∧ (spV K l u).length = K ∧ gatE l (spV K l u) = 0 ∧ gatV l (spV K l u) = u := by
  have hp := chk_ok.1 h
  obtain ⟨s1, s2⟩ := sp_ok (v := u) h hu
  have hl : (spV K l u).length = K := by rw [s2, List.length_map, upI_len]
  have g := gat_ok.2 (gat_plc hp hl)
  refine ⟨s1, hl, g, ?_⟩
  apply List.ext_getElem?
  intro i
  by_cases hi : i < l.length
  · have hli : l[i]? = some l[i] := List.getElem?_eq_getElem hi
    have hpl := hp.2.2.2 _ (List.getElem_mem hi)
    obtain ⟨n, hn⟩ := Int.eq_ofNat_of_zero_le hpl.1
    have hui : u[i]? = some u[i] := List.getElem?_eq_getElem (by omega)
    rw [hn] at hli
    have hnK : n < K := by omega
    rw [gat_at (z := u[i]) g hli (by rw [s2, sp_at hnK, spF_in hp.2.2.1 hu hli hui]), hui]
  · rw [List.getElem?_eq_none (by rw [gat_len g]; omega), List.getElem?_eq_none (by omega)]
theorem spV_len (dim : Int) (l v : List Int) : (spV dim l v).length ≤ 4096 := by
  unfold spV
  split
  · rename_i h
    unfold spE at h
    split at h
    · rename_i h1
      have hd := (chk_ok.1 h1).2.1
      rw [List.length_map, upI_len]
      omega
    · rename_i h1; exact absurd h h1
  · simp
theorem lfV_len (dim : Int) (l : List Int) : (lfV dim l).length ≤ 4096 := by
  unfold lfV
  split
  · rename_i h
    have hd := (chk_ok.1 h).2.1
    unfold lfF
    have := List.length_filter_le (fun x => !decide (x ∈ l)) (upI dim.toNat)
    rw [upI_len] at this
    omega
  · simp
end Go.Proofs.Ytgdkmgepconnpaa
