
/- Yf: texts joined: PrN PrO QpB QpC PrP FsR. -/
import Derived.Test.YtecgbelgoomneaaGreatYd
import Derived.Test.YtecgbelgoomneaaGreatYQuC
import Derived.Test.YtecgbelgoomneaaGreatYc
import Derived.Test.YtecgbelgoomneaaGreatYFsB
import Derived.Test.YtecgbelgoomneaaGreatYe
import Derived.Test.YtecgbelgoomneaaGreatYb
import Derived.Test.YtecgbelgoomneaaGreatYQuB
import Derived.Test.YtecgbelgoomneaaGreatYFsQ0
import Derived.Test.YtecgbelgoomneaaGreatYFsQ1
import Derived.Test.YtecgbelgoomneaaGreatYFsQ2
import Derived.Test.YtecgbelgoomneaaGreatYFsQ3
/- What is pressed is met; loosened it is of 64 bits; all, none, one more of the greatest; pressed again; many rounds. Plain mathematics. No program in sight. -/
namespace Go.Proofs.YtecgbelgoomneaaGreat
open Go.RowKit
set_option maxRecDepth 100000
set_option linter.unusedVariables false
theorem spF_or {l v : List Int} (j : Int) : spF l v j = 0 ∨ spF l v j ∈ v := by
  unfold spF
  have key : ∀ (ps : List (Int × Int)) (a : Int), (a = 0 ∨ a ∈ v) → (∀ p ∈ ps, p.2 ∈ v) → (ps.foldl (fun acc p => if j = p.1 then p.2 else acc) a = 0 ∨ ps.foldl (fun acc p => if j = p.1 then p.2 else acc) a ∈ v) := by
    intro ps
    induction ps with
    | nil => intro a h _; exact h
    | cons p ps ih =>
      intro a h hp
      rw [List.foldl_cons]
      refine ih _ ?_ fun q hq => hp q (by simp [hq])
      split
      · exact .inr (hp p (by simp))
      · exact h
  exact key _ 0 (.inl rfl) fun p hp => (List.of_mem_zip hp).2
theorem plo_i64 {s : SentV} (hw : wfS s) : ∀ x ∈ ploV s, I64 x := by
  obtain ⟨w1, w2, w3, w4, w5, w6, w7⟩ := hw
  by_cases h : mayB s = true
  · obtain ⟨d1, d2, hp⟩ := mayB_iff.1 h
    unfold ploV
    rw [if_pos h]
    rcases hp with ⟨e, _, e2, _⟩ | ⟨e, e2, e3, _⟩ | ⟨e, _, _, e2, _, _, _, e4, e3⟩ | ⟨e, _, _, _, _, e4, e2⟩
    · rw [if_neg (by omega), if_neg (by omega), if_neg (by omega)]; exact w4
    · rw [if_pos e]
      obtain ⟨K, hK⟩ := Int.eq_ofNat_of_zero_le (show 0 ≤ s.dim by omega)
      rw [hK] at e2 ⊢
      rw [(sp_ok e2 e3.symm).2]
      intro x hx
      obtain ⟨j, _, rfl⟩ := List.mem_map.1 hx
      rcases spF_or (l := s.L) (v := s.V) j with h0 | h0
      · rw [h0]; decide
      · exact w4 _ h0
    · have h0 : loqE s = 0 := if_pos ⟨h, e⟩
      rw [if_neg (by omega), if_pos e]
      unfold loqV
      rw [if_pos h0]
      intro x hx
      unfold loqL at hx
      obtain ⟨j, _, rfl⟩ := List.mem_map.1 hx
      unfold loQ
      have := valV_le (l := (s.lev.getD j 0).toNat) (wide := s.wide) e4
      unfold I64 at w5 ⊢
      split <;> omega
    · have h0 : lsgE s = 0 := if_pos ⟨h, e⟩
      rw [if_neg (by omega), if_neg (by omega), if_pos e]
      unfold lsgV
      rw [if_pos h0]
      intro x hx
      unfold lsgL at hx
      obtain ⟨b, _, rfl⟩ := List.mem_map.1 hx
      unfold I64 at w5 ⊢
      split <;> omega
  · unfold ploV; rw [if_neg h]; simp
/-- What is pressed meets its way. -/
def isGB (v : List Int) (s : SentV) : Bool := decide (mnE v = 0) && sameS (sgS v) s
def mtB (sch k wide : Int) (v : List Int) (s : SentV) : Bool :=
  decide (howP sch k wide v.length ∧ mayB s = true ∧ s.sch = sch) &&
    (if sch = 1 then isTB v k s else if sch = 2 then (decide (s.wide = wide) && nearB v s) else if sch = 3 then isGB v s else eqB s.V v)
/-- Signs pressed, loosened, pressed and loosened again. -/
theorem sgn_again {v X : List Int} (h : mnE v = 0) (hX : lsgL (mnV v) (sgN v) = X) : mnE X = 0 ∧ lsgL (mnV X) (sgN X) = X ∧ X.length = v.length ∧ ∀ x ∈ X, I64 x := by
  obtain ⟨_, _, z3, z4, z5, _⟩ := sg_loose h
  obtain ⟨h0, h1⟩ := mnE_ok.1 h
  obtain ⟨s1, s2, _⟩ := sizeV_is h1
  have hl : 0 < v.length := List.length_pos_iff.2 h0
  obtain ⟨M, hM⟩ : ∃ M, mnN v = M := ⟨_, rfl⟩
  rw [z3, hM] at z4 hX
  rw [hM] at z5
  rw [hX] at z4
  have hXl : X.length = v.length := by rw [← hX]; unfold lsgL; rw [List.length_map, sgN_len]
  have hMb : M ≤ 9223372036854775807 := by
    have h2 : 1 * M ≤ v.length * M := Nat.mul_le_mul_right M hl
    omega
  have hXE : mnE X = 0 := mnE_ok.2 ⟨fun e => by rw [e] at hXl; simp at hXl; omega, by rw [sizeE_is (by omega), if_pos (by omega)]⟩
  have hXN : mnN X = M := by unfold mnN; rw [z4, hXl, Nat.mul_div_cancel_left M hl]
  have hXV : mnV X = (M : Int) := by unfold mnV; rw [if_pos hXE, hXN]
  have hin : ∀ x ∈ X, x = (M : Int) ∨ x = -(M : Int) := by
    rw [← hX]
    intro x hx
    unfold lsgL at hx
    obtain ⟨b, _, rfl⟩ := List.mem_map.1 hx
    split
    · exact .inr rfl
    · exact .inl rfl
  refine ⟨hXE, ?_, hXl, fun x hx => by have := hin x hx; unfold I64; omega⟩
  rw [hXV]
  unfold lsgL sgN
  rw [List.map_map]
  have : ∀ (l : List Int), (∀ x ∈ l, x = (M : Int) ∨ x = -(M : Int)) → l.map ((fun b : Bool => if b = true then -(M : Int) else (M : Int)) ∘ fun n => decide (n < 0)) = l := by
    intro l
    induction l with
    | nil => intro _; rfl
    | cons x t ih =>
      intro hl
      rw [List.map_cons, ih fun y hy => hl y (List.mem_cons_of_mem x hy)]
      congr 1
      have := hl x (by simp)
      show (if decide (x < 0) = true then -(M : Int) else (M : Int)) = x
      by_cases hx : x < 0
      · rw [if_pos (decide_eq_true hx)]; omega
      · rw [if_neg (by simpa using hx)]; omega
  exact this X hin
end Go.Proofs.YtecgbelgoomneaaGreat
/- Of all nothing is left, of none all, of one more no more; pressed again; many rounds. Plain mathematics. No program in sight. -/
namespace Go.Proofs.YtecgbelgoomneaaGreat
open Go.RowKit
set_option maxRecDepth 100000
set_option linter.unusedVariables false
theorem sumS_up : ∀ {v u : List Int}, u.length = v.length → (∀ k, k < v.length → szN (u.getD k 0) ≤ szN (v.getD k 0)) → sumS u ≤ sumS v
  | [], [], _, _ => Nat.le_refl _
  | [], _ :: _, h, _ => by simp at h
  | _ :: _, [], h, _ => by simp at h
  | x :: t, y :: r, h, hk => by
    rw [sumS_cons, sumS_cons]
    have h0 := hk 0 (by simp)
    have h1 := sumS_up (v := t) (u := r) (by simpa using h) fun k hk' => by
      have := hk (k + 1) (by simpa using hk')
      simpa using this
    simp at h0
    omega
theorem sumS_most {b : Nat} : ∀ {v : List Int}, (∀ x ∈ v, szN x ≤ b) → sumS v ≤ v.length * b
  | [], _ => by simp [sumS]
  | x :: t, h => by
    rw [sumS_cons, List.length_cons, Nat.succ_mul]
    have h1 := h x (by simp)
    have h2 := sumS_most fun y hy => h y (List.mem_cons_of_mem x hy)
    omega
theorem ext_getD {u v : List Int} (hl : u.length = v.length) (h : ∀ k, k < v.length → u.getD k 0 = v.getD k 0) : u = v := by
  rw [← range_getDv u, ← range_getDv v, hl]
  exact map_range_ext h
/-- What is left of the greatest. -/
theorem plf_top {v : List Int} {k : Int} (uv : ∀ x ∈ v, I64 x) (h0 : v ≠ []) (h : pikE v k = 0) :
    plfE v (prsS v k) = 0 ∧ (plfV v (prsS v k)).length = v.length ∧ ∀ n : Nat, n < v.length → (plfV v (prsS v k)).getD n 0 = if (n : Int) ∈ pikV v k then 0 else v.getD n 0 := by
  have hm := (prs_may uv h0 h).1
  have hc := pik_plc h h0
  obtain ⟨_, p2⟩ := prs_ok h0 h
  obtain ⟨s1, s2, s3⟩ := spr_at (v := v) hc
  have hd := (mayB_iff.1 hm).2.1
  have hx : ploV (prsS v k) = spV v.length (pikV v k) (atL v (pikV v k)) := by
    unfold ploV
    rw [if_pos hm, p2]
    exact if_pos rfl
  have hg : ∀ n : Nat, n < v.length → (ploV (prsS v k)).getD n 0 = if (n : Int) ∈ pikV v k then v.getD n 0 else 0 := fun n hn => by
    rw [hx, List.getD_eq_getElem?_getD, s3 n hn]; rfl
  have hv4 : v.length ≤ 4096 := by rw [p2] at hd; have : (v.length : Int) ≤ 4096 := hd; omega
  have a := op_mk (f := (· - ·)) (xs := v) (ys := ploV (prsS v k)) hv4 (by rw [hx]; exact s2) fun n hn => by
    have h1 := i64_getD uv hn
    show I64 (_ - _)
    rw [hg n hn]
    split
    · rw [Int.sub_self]; decide
    · rw [Int.sub_zero]; exact h1
  have e : plfV v (prsS v k) = opV (· - ·) v (ploV (prsS v k)) := if_pos (ploE_ok.2 hm)
  refine ⟨plfE_ok.2 ⟨hm, a.1⟩, by rw [e, a.2]; simp, fun n hn => ?_⟩
  rw [e, a.2, getD_range hn, hg n hn]
  show _ - _ = _
  split <;> omega
theorem plf_none {v : List Int} (uv : ∀ x ∈ v, I64 x) (h0 : v ≠ []) (hl : v.length ≤ 4096) : plfV v (prsS v 0) = v := by
  obtain ⟨h, hp⟩ := pik_zero hl
  obtain ⟨_, a2, a3⟩ := plf_top uv h0 h
  refine ext_getD a2 fun k hk => ?_
  rw [a3 k hk, hp]
  simp
theorem plf_more {v : List Int} {k m : Int} (uv : ∀ x ∈ v, I64 x) (h0 : v ≠ []) (h1 : pikE v k = 0) (h2 : pikE v m = 0) (h : k ≤ m) : sumS (plfV v (prsS v m)) ≤ sumS (plfV v (prsS v k)) ∧ sumS (plfV v (prsS v k)) ≤ sumS v := by
  obtain ⟨_, a2, a3⟩ := plf_top uv h0 h1
  obtain ⟨_, b2, b3⟩ := plf_top uv h0 h2
  refine ⟨sumS_up (by omega) fun n hn => ?_, sumS_up a2 fun n hn => ?_⟩
  · rw [a3 n (by omega), b3 n (by omega)]
    by_cases hk : (n : Int) ∈ pikV v k
    · have := pik_more h1 h2 h hk
      unfold hasB at this
      rw [if_pos (of_decide_eq_true this), if_pos hk]
      exact Nat.le_refl _
    · rw [if_neg hk]
      split
      · exact Nat.zero_le _
      · exact Nat.le_refl _
  · rw [a3 n hn]
    split
    · exact Nat.zero_le _
    · exact Nat.le_refl _
theorem plf_all {v : List Int} (h0 : v ≠ []) (hl : v.length ≤ 4096) : plfE v (denS v) = 0 ∧ sumS (plfV v (denS v)) = 0 ∧ (plfV v (denS v)).length = v.length := by
  have h1 : 0 < v.length := List.length_pos_iff.2 h0
  have hm : mayB (denS v) = true := mayB_iff.2 ⟨by show (1 : Int) ≤ v.length; omega, by show (v.length : Int) ≤ 4096; omega, .inl ⟨rfl, rfl, rfl, rfl, rfl, rfl, rfl⟩⟩
  have hx : ploV (denS v) = v := if_pos hm
  have a := op_mk (f := (· - ·)) (xs := v) (ys := v) hl rfl fun n hn => by
    show I64 (_ - _)
    rw [Int.sub_self]; decide
  have e : plfV v (denS v) = opV (· - ·) v v := by unfold plfV; rw [if_pos (ploE_ok.2 hm), hx]
  refine ⟨plfE_ok.2 ⟨hm, by rw [hx]; exact a.1⟩, ?_, by rw [e, a.2]; simp⟩
  have hz : sumS (plfV v (denS v)) ≤ (plfV v (denS v)).length * 0 := sumS_most fun x hx => by
    rw [e, a.2] at hx
    obtain ⟨n, _, rfl⟩ := List.mem_map.1 hx
    show szN (_ - _) ≤ 0
    rw [Int.sub_self]; exact Nat.le_refl _
  omega
/-- Pressed again the same way, it is loosened to the same. -/
theorem pp_again {sch k wide : Int} {v X : List Int} {seed seed' : Nat} {n n' : List Int} (uv : ∀ x ∈ v, I64 x) (h2 : sch ≠ 2) (h : ppE sch k wide v = 0) (hX : ploV (ppS sch k wide v seed n) = X) :
    ppE sch k wide X = 0 ∧ ploV (ppS sch k wide X seed' n') = X ∧ X.length = v.length ∧ ∀ x ∈ X, I64 x := by
  obtain ⟨m1, m2, m3⟩ := pp_may (seed := seed) (n := n) uv h
  obtain ⟨h1, hp, h3⟩ := ppE_ok.1 h
  have hXl : X.length = v.length := by
    have := plo_len m1
    rw [hX, m3] at this
    omega
  have h0 : v ≠ [] := fun e => by have := hp.1; rw [e] at this; simp at this
  have key : wayE sch k wide X = 0 ∧ (ppE sch k wide X = 0 → ploV (ppS sch k wide X seed' n') = X) ∧ ∀ x ∈ X, I64 x := by
    obtain ⟨_, _, hq⟩ := hp
    unfold wayE at h3 ⊢
    rw [pp_is h] at hX m1
    unfold wayS at hX m1
    rcases hq with ⟨rfl, rfl, rfl⟩ | ⟨rfl, k1, k2, rfl⟩ | ⟨rfl, rfl, w1, w2⟩ | ⟨rfl, rfl, rfl⟩
    · rw [if_neg (by decide), if_neg (by decide), if_neg (by decide)] at hX m1
      have e : ploV (denS v) = v := if_pos m1
      rw [e] at hX
      subst hX
      refine ⟨rfl, fun he => ?_, uv⟩
      rw [pp_is he]
      exact e
    · rw [if_pos rfl] at h3 hX m1 ⊢
      have hk : pikE v k = 0 := by unfold prsE at h3; rwa [if_neg h0] at h3
      obtain ⟨p1, p2⟩ := prs_ok h0 hk
      have e : ploV (prsS v k) = spV v.length (pikV v k) (atL v (pikV v k)) := by
        unfold ploV
        rw [if_pos m1, p2]
        exact if_pos rfl
      rw [e] at hX
      obtain ⟨a1, a2, a3, a4, a5⟩ := pik_again h0 hk rfl hX
      have uX : ∀ x ∈ X, I64 x := by rw [← hX]; exact spr_i64 uv (pik_plc hk h0)
      have hX0 : X ≠ [] := fun e => by rw [e] at a2; exact h0 (List.length_eq_zero_iff.1 a2.symm)
      obtain ⟨q1, q2⟩ := prs_ok hX0 a3
      refine ⟨q1, fun he => ?_, uX⟩
      have hm := (prs_may uX hX0 a3).1
      rw [pp_is he]
      unfold wayS
      rw [if_pos rfl]
      unfold ploV
      rw [if_pos hm, q2]
      show (if (1 : Int) = 1 then spV X.length (pikV X k) (atL X (pikV X k)) else _) = X
      rw [if_pos rfl, a2]
      exact a5
    · exact absurd rfl h2
    · rw [if_neg (by decide), if_neg (by decide), if_pos rfl] at h3 hX m1 ⊢
      have e : ∀ {u : List Int}, mnE u = 0 → ploV (sgS u) = lsgL (mnV u) (sgN u) := fun {u} hu => by
        have := sg_loose hu
        unfold ploV
        rw [if_pos (sg_may hu), this.2.1.symm]
        rw [show (sgS u).sch = 3 by unfold sgS; rw [if_pos hu]]
        rfl
      rw [e h3] at hX
      obtain ⟨a1, a2, a3, a4⟩ := sgn_again h3 hX
      refine ⟨a1, fun he => ?_, a4⟩
      rw [pp_is he]
      unfold wayS
      rw [if_neg (by decide), if_neg (by decide), if_pos rfl, e a1, a2]
  have hE : ppE sch k wide X = 0 := ppE_ok.2 ⟨by omega, by rw [hXl]; exact hp, key.1⟩
  exact ⟨hE, key.2.1 hE, hXl, key.2.2⟩
/-- One more round, number by number, in 64 bits. -/
theorem round_sum {S L A x r v : Int} (h : wrap64 (S + L) = A) (h2 : x + r = v + L) : wrap64 (wrap64 (S + x) + r) = wrap64 (A + v) := by
  rw [← h]
  unfold wrap64
  omega
end Go.Proofs.YtecgbelgoomneaaGreat
/- Whether a vector is one in levels that may be; loosened: by the program. -/
namespace Go.Proofs.YtecgbelgoomneaaGreat
open Go.RowKit
set_option maxHeartbeats 400000
set_option maxRecDepth 100000
set_option linter.unusedVariables false
theorem width_qp {g : Nat} {wd x : Int} {w : World} (hc : w.cell? ⟨g, 5, none⟩ = some (.int .i64 wd)) (ux : U64 x) :
    Calls Tryz.prog 207 (#[.int .u64 x] ++ #[.pointer (some ⟨g, 0, none⟩)]) w fun e w' => e = .returned (.bool (decide (wd < (wdt x : Int)))) ∧ ∃ n, w' = w.drewN n := by
  have CW := hid (fun W => pl_Width x ux W)
  obtain ⟨z, hz⟩ : ∃ z, wdt x = z := ⟨_, rfl⟩
  rw [hz] at CW ⊢
  clear hz
  go_enter Tryz.func207, Tryz.ntmps207
  go_wp2_with fail
  go_quiet ((go_at_call 185; exact quietL CW.out _))
  go_wp2_with fail
  go_ret
  exact ⟨rfl, _, rfl⟩
theorem qp_levels (s : SentV) (p : SentP) (hn : lnS 100000 s) (hw : I64 s.wide) (ul : U64s s.lev) (w : World) {B : Nat} (hB : B ≤ w.heap.size) (ra : RdS w B s p) :
    Calls Tryz.prog 169 #[encT s p] w fun e w' => e = .returned (.bool (lvB s)) ∧ Below w.heap.size w w' := by
  have HR : lvB s = true ↔ (stsE s.wide = 0 ∧ (s.lev.length : Int) = s.dim ∧ fitsB s.wide s.lev = true) := by
    unfold lvB
    rw [decide_eq_true_eq, stsE_ok]
    constructor
    · rintro ⟨a, b, c, d⟩; exact ⟨⟨a, b⟩, c, d⟩
    · rintro ⟨⟨a, b⟩, c, d⟩; exact ⟨a, b, c, d⟩
  obtain ⟨R, hR⟩ : ∃ R, lvB s = R := ⟨_, rfl⟩
  rw [hR] at HR ⊢
  have CS := hid (fun W => qp_Steps s.wide hw W)
  have CC : Hid (∀ W, Below w.heap.size w W → W.cell? ⟨w.heap.size, 5, none⟩ = some (.int .i64 s.wide) → Calls Tryz.prog 183 #[.slice p.AE s.lev.length p.cE, .func (.func 207) #[] #[.pointer (some ⟨w.heap.size, 0, none⟩)]] W fun e w' => e = .returned (.bool (!fitsB s.wide s.lev)) ∧ ∃ n, w' = W.drewN n) := hid (fun W hb hc => by
    have h := contains_any (A := p.AE) (c := p.cE) 207 #[.pointer (some ⟨w.heap.size, 0, none⟩)] s.lev (by have := hn.2.2.1; omega) (fun x => decide (s.wide < (wdt x : Int))) W (cl_enter 207 (by kernel_rfl)) (ra.2.2.1.below (hb.mono hB)) (fun x hx n => width_qp (w := W.drewN n) hc (ul x hx))
    rw [any_fits] at h
    exact h)
  obtain ⟨v, hv⟩ : ∃ v, fitsB s.wide s.lev = v := ⟨_, rfl⟩
  rw [hv] at HR CC
  obtain ⟨E, hE⟩ : ∃ E, stsE s.wide = E := ⟨_, rfl⟩
  obtain ⟨V, hV⟩ : ∃ V, stsV s.wide = V := ⟨_, rfl⟩
  rw [hE] at HR CS
  rw [hV] at CS
  have HR2 := hid HR
  clear hR HR hv ra hn ul hE hV
  go_enter Tryz.func169, Tryz.ntmps169
  go_wp2_with fail
  refine (CS.out _).mono ?_
  rintro _ _ ⟨rfl, rfl⟩
  by_cases h0 : E = 0
  · subst h0
    go_wp2_with fail
    any_goals (go_ret; refine ⟨ret_of ?_, by go_grown⟩; rw [HR2.out]; first | (simp [*]; done) | (simp [*]; omega))
    refine (CC.out _ (by go_grown) (by simp [go_sem])).mono ?_
    rintro _ _ ⟨rfl, n1, rfl⟩
    go_wp2_with fail
    go_ret
    refine ⟨ret_of ?_, Below.trans (by go_grown) (belowN _ _ _)⟩
    rw [HR2.out]
    first | (simp [*]; done) | (simp [*]; omega)
  · have h0' : (E != 0) = true := by simpa using h0
    have hRf : R = false := by
      cases R with
      | false => rfl
      | true => exact absurd (HR2.out.1 rfl).1 h0
    subst hRf
    clear h0 HR2
    go_wp2_with fail
    go_ret
    exact ⟨rfl, by go_grown⟩
/-- One in levels that may be. -/
def myQ (s : SentV) : Bool := decide (s.sch = 2 ∧ 1 ≤ s.dim ∧ s.dim ≤ 4096 ∧ s.L = [] ∧ s.V = [] ∧ 0 ≤ s.scale ∧ (s.neg.length : Int) = s.dim ∧ lvB s = true)
theorem myQ_iff {s : SentV} : myQ s = true ↔ mayB s = true ∧ s.sch = 2 := by
  unfold myQ lvB
  rw [decide_eq_true_iff, decide_eq_true_iff, mayB_iff]
  unfold mayP
  constructor
  · rintro ⟨a, b, c, d, e, f, g, h1, h2, h3, h4⟩
    exact ⟨⟨b, c, .inr (.inr (.inl ⟨a, h1, h2, h3, h4, d, e, f, g⟩))⟩, a⟩
  · rintro ⟨⟨b, c, h⟩, a⟩
    rcases h with h | h | ⟨_, h1, h2, h3, h4, d, e, f, g⟩ | h
    · have := h.1; omega
    · have := h.1; omega
    · exact ⟨a, b, c, d, e, f, g, h1, h2, h3, h4⟩
    · have := h.1; omega
theorem qp_may_v (sch dim scale wide : Int) (nL nV nE nN : Nat) (AL AV AE AN : Option Addr) (cL cV cE cN : Nat) (R v : Bool) (hd : I64 dim) (w : World)
    (HR : Hid (R = true ↔ (sch = 2 ∧ 1 ≤ dim ∧ dim ≤ 4096 ∧ nL = 0 ∧ nV = 0 ∧ 0 ≤ scale ∧ (nN : Int) = dim ∧ v = true)))
    (CL : Hid (∀ W, Below w.heap.size w W → Calls Tryz.prog 169 #[.agg #[.int .i64 sch, .int .i64 dim, .slice AL nL cL, .slice AV nV cV, .int .i64 scale, .int .i64 wide, .slice AE nE cE, .slice AN nN cN]] W fun e w' => e = .returned (.bool v) ∧ Below W.heap.size W w')) :
    Calls Tryz.prog 122 #[.agg #[.int .i64 sch, .int .i64 dim, .slice AL nL cL, .slice AV nV cV, .int .i64 scale, .int .i64 wide, .slice AE nE cE, .slice AN nN cN]] w fun e w' => e = .returned (.bool R) ∧ Below w.heap.size w w' := by
  unfold I64 at hd
  by_cases h1 : sch = 2
  · subst h1
    by_cases h2 : dim ≥ 1
    · by_cases h3 : dim ≤ 4096
      · by_cases h4 : nL = 0
        · subst h4
          by_cases h5 : nV = 0
          · subst h5
            by_cases h6 : scale ≥ 0
            · by_cases h7 : (nN : Int) = dim
              · subst h7
                have hF : R = v := by
                  rw [Bool.eq_iff_iff, HR.out]
                  exact ⟨fun h => h.2.2.2.2.2.2.2, fun h => ⟨rfl, h2, h3, rfl, rfl, h6, rfl, h⟩⟩
                subst hF
                clear HR
                go_enter Tryz.func122, Tryz.ntmps122
                go_wp2_with fail
                refine (CL.out _ (by go_grown)).mono ?_
                rintro _ w1 ⟨rfl, hb⟩
                go_wp2_with fail
                go_ret
                exact ⟨by simp, Below.trans (by go_grown) (hb.mono (by simp))⟩
              · have t7 : ((nN : Int) == dim) = false := beq_eq_false_iff_ne.2 h7
                have hF : R = false := Bool.eq_false_iff.2 (fun h => h7 (HR.out.1 h).2.2.2.2.2.2.1)
                subst hF
                clear CL HR
                go_enter Tryz.func122, Tryz.ntmps122
                go_wp2_with fail
                go_ret
                exact ⟨rfl, by go_grown⟩
            · have hF : R = false := Bool.eq_false_iff.2 (fun h => h6 (HR.out.1 h).2.2.2.2.2.1)
              subst hF
              clear CL HR
              go_enter Tryz.func122, Tryz.ntmps122
              go_wp2_with fail
              go_ret
              exact ⟨rfl, by go_grown⟩
          · have t5 : ((nV : Int) == 0) = false := beq_eq_false_iff_ne.2 (by omega)
            have t5b : (nV == 0) = false := beq_eq_false_iff_ne.2 h5
            have hF : R = false := Bool.eq_false_iff.2 (fun h => h5 (HR.out.1 h).2.2.2.2.1)
            subst hF
            clear CL HR
            go_enter Tryz.func122, Tryz.ntmps122
            go_wp2_with fail
            go_ret
            exact ⟨rfl, by go_grown⟩
        · have t4 : ((nL : Int) == 0) = false := beq_eq_false_iff_ne.2 (by omega)
          have t4b : (nL == 0) = false := beq_eq_false_iff_ne.2 h4
          have hF : R = false := Bool.eq_false_iff.2 (fun h => h4 (HR.out.1 h).2.2.2.1)
          subst hF
          clear CL HR
          go_enter Tryz.func122, Tryz.ntmps122
          go_wp2_with fail
          go_ret
          exact ⟨rfl, by go_grown⟩
      · have hF : R = false := Bool.eq_false_iff.2 (fun h => h3 (HR.out.1 h).2.2.1)
        subst hF
        clear CL HR
        go_enter Tryz.func122, Tryz.ntmps122
        go_wp2_with fail
        go_ret
        exact ⟨rfl, by go_grown⟩
    · have hF : R = false := Bool.eq_false_iff.2 (fun h => h2 (HR.out.1 h).2.1)
      subst hF
      clear CL HR
      go_enter Tryz.func122, Tryz.ntmps122
      go_wp2_with fail
      go_ret
      exact ⟨rfl, by go_grown⟩
  · have t1 : (sch == 2) = false := beq_eq_false_iff_ne.2 h1
    have hF : R = false := Bool.eq_false_iff.2 (fun h => h1 (HR.out.1 h).1)
    subst hF
    clear CL HR
    go_enter Tryz.func122, Tryz.ntmps122
    go_wp2_with fail
    go_ret
    exact ⟨rfl, by go_grown⟩
theorem qp_may (s : SentV) (p : SentP) (hn : lnS 100000 s) (hw : wfS s) (w : World) {B : Nat} (hB : B ≤ w.heap.size) (ra : RdS w B s p) :
    Calls Tryz.prog 122 #[encT s p] w fun e w' => e = .returned (.bool (myQ s)) ∧ Below w.heap.size w w' := by
  refine qp_may_v s.sch s.dim s.scale s.wide s.L.length s.V.length s.lev.length s.neg.length p.AL p.AV p.AE p.AN p.cL p.cV p.cE p.cN (myQ s) (lvB s) hw.2.1 w (hid ?_) (hid fun W h => ?_)
  · unfold myQ; rw [decide_eq_true_eq, List.length_eq_zero_iff, List.length_eq_zero_iff]
  · exact qp_levels s p hn hw.2.2.2.2.2.1 hw.2.2.2.2.2.2 W (B := w.heap.size) h.size ((ra.below (h.mono hB)).more hB)
end Go.Proofs.YtecgbelgoomneaaGreat
/- Loosened, by the program. -/
namespace Go.Proofs.YtecgbelgoomneaaGreat
open Go.RowKit
set_option maxHeartbeats 1000000
set_option maxRecDepth 100000
set_option linter.unusedVariables false
theorem own_loq {w' : World} {b B M : Nat} {e : TypeId} {s : SentV} (h : w'.rowIs b e M (fun j => .int .i64 (loQ s j))) (hB : B ≤ b) (hM : M ≤ 4096) :
    w'.ownsRow B e 1 (.slice (some ⟨b, 0, none⟩) (loqL s M).length M) (loqL s M).length ((loqL s M).map (Value.int .i64)) := by
  have h2 := own_made (w' := w') h hB (by unfold maxLen; omega)
  unfold loqL
  rw [List.length_map, List.length_range, List.map_map]
  exact h2
set_option maxHeartbeats 4000000 in
theorem qp_Loosen (s : SentV) (p : SentP) (hn : lnS 100000 s) (hw : wfS s) (w : World) (ra : RdS w w.heap.size s p) :
    Calls Tryz.prog 77 #[encT s p] w (OwnE 2 .i64 w.heap.size (loqV s) (loqE s) w) := by
  obtain ⟨AL, cL, AV, cV, AE, cE, AN, cN⟩ := p
  have CM := hid (fun W (h : Below w.heap.size w W) => show Calls Tryz.prog 122 #[.agg #[.int .i64 s.sch, .int .i64 s.dim, .slice AL s.L.length cL, .slice AV s.V.length cV, .int .i64 s.scale, .int .i64 s.wide, .slice AE s.lev.length cE, .slice AN s.neg.length cN]] W fun e w' => e = .returned (.bool (myQ s)) ∧ Below W.heap.size W w' from qp_may s ⟨AL, cL, AV, cV, AE, cE, AN, cN⟩ hn hw W (B := w.heap.size) h.size (ra.below h))
  show Calls Tryz.prog 77 #[.agg #[.int .i64 s.sch, .int .i64 s.dim, .slice AL s.L.length cL, .slice AV s.V.length cV, .int .i64 s.scale, .int .i64 s.wide, .slice AE s.lev.length cE, .slice AN s.neg.length cN]] w _
  by_cases hm : mayB s = true ∧ s.sch = 2
  · have he : loqE s = 0 := if_pos hm
    have hv : loqV s = loqL s s.lev.length := if_pos he
    rw [he, hv]
    rw [myQ_iff.2 hm] at CM
    obtain ⟨m1, m2, m3, m4⟩ := may_lev hm.1 hm.2
    have m5 : s.dim = (s.lev.length : Int) := by
      have h := of_decide_eq_true (myQ_iff.2 hm)
      have h2 := h.2.2.2.2.2.2.1
      omega
    have hsc := hw.2.2.2.2.1
    have hwd := hw.2.2.2.2.2.1
    have CV := hid (fun (l : Nat) (hl : l < 18446744073709551616) W => qp_Value l s.scale s.wide hl hsc hwd W)
    have HU := hid hw.2.2.2.2.2.2
    have HVL := hid (fun l : Nat => valV_le (l := l) (wide := s.wide) m4)
    have HLO := hid (fun q => show loQ s q = if s.neg.getD q false = true then -(valV (s.lev.getD q 0).toNat s.scale s.wide : Int) else (valV (s.lev.getD q 0).toNat s.scale s.wide : Int) from rfl)
    have RA : Hid (Rd (Value.int .u64) w w.heap.size AE s.lev) := hid ra.2.2.1
    have RN : Hid (Rd Value.bool w w.heap.size AN s.neg) := hid ra.2.2.2
    have hs63 : s.scale ≤ 9223372036854775807 := by unfold I64 at hsc; omega
    have HNL := hid m2
    have H2 := hid hm.2
    have HD := hid m5
    have hmk := fun (n : Nat) (hn : n ≤ 4096) W => run_make_row' (P := Tryz.prog) 24 2 (.int .i64 0) 8 Tryz.underlying24 info_i64 rfl .i64 .i64 n (by omega) (by omega) W
    have hmk1 := hmk s.lev.length m1
    obtain ⟨F, hF⟩ : ∃ F, loQ s = F := ⟨_, rfl⟩
    have HF := hid hF
    rw [hF] at HLO
    clear he hv hm ra hn hw m2 m3 hsc hwd m5 hmk hF
    go_enter Tryz.func77, Tryz.ntmps77
    go_wp2_with fail
    have B0 := BoxL.new w [.int .i64 s.sch, .int .i64 s.dim, .slice AL s.L.length cL, .slice AV s.V.length cV, .int .i64 s.scale, .int .i64 s.wide, .slice AE s.lev.length cE, .slice AN s.neg.length cN] 32
    refine (CM.out _ (by go_grown)).mono ?_
    rintro _ w1 ⟨rfl, hb⟩
    have HB1 := hid (B0.below hb (by simp))
    have k1 : Below w.heap.size w w1 := Below.trans (by go_grown) (hb.mono (by simp))
    have hg1 : w.heap.size < w1.heap.size := by have := hb.size; simp at this; omega
    have f1 := (HB1.out 1 _ rfl).1
    rw [HD.out] at f1
    have f6 := (HB1.out 6 _ rfl).1
    clear B0 hb CM
    go_wp2_with fail
    clear f1 f6
    go_loopw [5, 6, 16] (fun x5 x6 i wr => ∃ k : Nat, k ≤ s.lev.length ∧ i = .int .i64 k ∧ wr.rowIs w1.heap.size 2 s.lev.length (fun j => .int .i64 (if j < k then F j else 0)) ∧ Below w1.heap.size w1 wr) (fun _ _ i _ => s.lev.length - (intOf i).toNat)
    case atStart => exact ⟨0, by omega, rfl, by simpa using World.rowIs_made w1 (.int .i64 0) s.lev.length _, by go_grown⟩
    case round =>
      clear hmk1
      obtain ⟨k, hk, rfl, hrow, hbr⟩ := hrel
      have HR := hid hrow
      by_cases hlt : k < s.lev.length
      · have kw := k1.trans (hbr.mono k1.size)
        obtain ⟨b1, o1, x, rfl, l1, ex, d1⟩ := (RA.out.below kw).at_ hlt
        obtain ⟨b2, o2, y, rfl, l2, ey, d2⟩ := (RN.out.below kw).at_ (k := k) (by rw [HNL.out]; exact hlt)
        have hltn : k < s.neg.length := by rw [HNL.out]; exact hlt
        obtain ⟨x1, x2⟩ := HU.out.at_ ex
        obtain ⟨l, rfl⟩ := Int.eq_ofNat_of_zero_le x1
        have C := hid (CV.out l (by omega) wr)
        have hvl := HVL.out l
        have hlo := HLO.out k
        rw [getD_of ex, show s.neg.getD k false = y by rw [List.getD_eq_getElem?_getD, ey]; rfl, Int.toNat_natCast] at hlo
        obtain ⟨z, hz⟩ : ∃ z, valV l s.scale s.wide = z := ⟨_, rfl⟩
        rw [hz] at C hvl hlo
        have HLO2 := hid hlo
        have HX := hid (HB1.out.below hbr hg1)
        have f4 := (HX.out 4 _ rfl).1
        have f5 := (HX.out 5 _ rfl).1
        have c3 := hrow.cell hlt
        have f3 := hrow.frozen k
        clear ex ey hlo hz hrow
        go_wp2_with fail
        refine C.out.mono ?_
        rintro _ _ ⟨rfl, m, rfl⟩
        obtain ⟨W1, hW1⟩ : ∃ W1, (wr.drewN m).setCell ⟨w1.heap.size, k, none⟩ (.int .i64 (z : Int)) = W1 := ⟨_, rfl⟩
        have hlw : w1.heap.size < wr.heap.size := by have := HR.out.lt; omega
        have hwl : w.heap.size < wr.heap.size := by omega
        have z0 : Below wr.heap.size wr (wr.drewN m) := belowN _ _ _
        have z1 : Below w1.heap.size wr W1 := by rw [← hW1]; exact (belowN w1.heap.size wr m).setCell (Nat.le_refl _) _
        have f7 := (HX.out.below z1 hg1 7 _ rfl).1
        have d2' : W1.cell? ⟨b2, o2 + k, none⟩ = some (.bool y) := by rw [z1.cell (p := ⟨b2, o2 + k, none⟩) (by show b2 < _; omega)]; exact d2
        have hR1 : W1.rowIs w1.heap.size 2 s.lev.length (fun j => if j = k then .int .i64 (z : Int) else .int .i64 (if j < k then F j else 0)) := by rw [← hW1]; exact (HR.out.of_block (z0.block _ hlw)).set k _
        have r1 := hR1.cell hlt
        rw [if_pos rfl] at r1
        have r2 := hR1.frozen k
        have HR1 := hid hR1
        have HB2 := hid (hbr.trans z1)
        have HLT := hid hlw
        clear HX d2 hR1 z0 z1 hbr HR hlw hwl
        cases y with
        | false =>
          have HL := hid (show F k = (z : Int) from HLO2.out)
          go_wp2_with fail
          go_roundw
          case rel =>
            refine ⟨k + 1, by omega, by go_num, HR1.out.congr fun j hj => ?_, HB2.out⟩
            by_cases e : j = k
            · rw [if_pos e, if_pos (by omega), e, HL.out]
            · by_cases e2 : j < k
              · rw [if_neg e, if_pos e2, if_pos (by omega)]
              · rw [if_neg e, if_neg e2, if_neg (by omega)]
          case measure => simp [intOf]; omega
        | true =>
          have HL := hid (show F k = -(z : Int) from HLO2.out)
          have hwr : IntKind.i64.wrap (-(z : Int)) = -(z : Int) := by rw [IntKind.wrap_i64]; omega
          go_wp2_with fail
          go_roundw
          case rel =>
            refine ⟨k + 1, by omega, by go_num, (HR1.out.set k (.int .i64 (-(z : Int)))).congr fun j hj => ?_, HB2.out.setCell (Nat.le_refl _) _⟩
            by_cases e : j = k
            · rw [if_pos e, if_pos (by omega), e, HL.out]
            · by_cases e2 : j < k
              · rw [if_neg e, if_neg e, if_pos e2, if_pos (by omega)]
              · rw [if_neg e, if_neg e, if_neg e2, if_neg (by omega)]
          case measure => simp [intOf]; omega
      · obtain rfl : k = s.lev.length := by omega
        have kw := k1.trans (hbr.mono k1.size)
        have hfin : OwnE 2 .i64 w.heap.size (loqL s s.lev.length) 0 w (.returned (.tuple #[.slice (some ⟨w1.heap.size, 0, none⟩) s.lev.length s.lev.length, .int .i64 0])) wr := by
          have h3 := own_loq (w' := wr) (s := s) (M := s.lev.length) (B := w.heap.size) (HR.out.congr fun j hj => by rw [if_pos hj, HF.out]) (by omega) m1
          rw [loqL_len] at h3
          exact ⟨some ⟨w1.heap.size, 0, none⟩, s.lev.length, by rw [loqL_len], by rw [loqL_len]; exact h3, kw⟩
        clear HR
        go_wp2_with fail
        go_ret2
        exact hfin
  · have he : loqE s = 1 := if_neg hm
    have hv : loqV s = [] := if_neg (by rw [he]; decide)
    rw [he, hv]
    have hq : myQ s = false := by
      cases h : myQ s with
      | false => rfl
      | true => exact absurd (myQ_iff.1 h) hm
    rw [hq] at CM
    clear he hv hm ra hn hw hq
    go_enter Tryz.func77, Tryz.ntmps77
    go_wp2_with fail
    refine (CM.out _ (by go_grown)).mono ?_
    rintro _ w1 ⟨rfl, hb⟩
    have k1 : Below w.heap.size w w1 := Below.trans (by go_grown) (hb.mono (by simp))
    go_wp2_with fail
    go_ret2
    exact .nil k1
end Go.Proofs.YtecgbelgoomneaaGreat
/- What is pressed is short, and of 64 bits. Plain mathematics. -/
namespace Go.Proofs.YtecgbelgoomneaaGreat
open Go.RowKit
set_option maxRecDepth 100000
set_option linter.unusedVariables false
theorem prq_ln {v : List Int} {wide : Int} {s : Nat} {n : List Int} : lnS 5000 (prqS v wide s n) := by
  unfold prqS
  split
  · rename_i h
    have h2 := (mostq_ok (prqE_ok.1 h).2.2).1
    refine ⟨by simp, by simp, ?_, ?_⟩
    · show (levQ v wide s n v.length).length ≤ 5000; rw [levQ_len]; omega
    · show (negQ v v.length).length ≤ 5000; rw [negQ_len]; omega
  · exact ⟨by simp [zeroS], by simp [zeroS], by simp [zeroS], by simp [zeroS]⟩
theorem prq_wf {v : List Int} {wide : Int} {s : Nat} {n : List Int} (hw : I64 wide) : wfS (prqS v wide s n) := by
  unfold prqS
  split
  · rename_i h
    obtain ⟨h1, h2, h3⟩ := prqE_ok.1 h
    have h4 := (mostq_ok h3).1
    refine ⟨by show I64 2; decide, by show I64 (v.length : Int); unfold I64; omega, by simp, by simp, most_i64 v, hw, fun x hx => ?_⟩
    have hx' : x ∈ levQ v wide s n v.length := hx
    unfold levQ at hx'
    obtain ⟨i, hi, rfl⟩ := List.mem_map.1 hx'
    have h5 := (plQ_is (seed := s) (n := n) (i := i) (prq_lvl h (List.mem_range.1 hi))).2
    have h6 := topQ_bd h1
    unfold U64
    omega
  · exact wf_zeroS
theorem den_wf {v : List Int} (hl : v.length ≤ 4096) (uv : ∀ x ∈ v, I64 x) : wfS (denS v) := by
  refine ⟨by show I64 0; decide, by show I64 (v.length : Int); unfold I64; omega, ?_, uv, by show I64 0; decide, by show I64 0; decide, ?_⟩
  · intro x hx; exact absurd hx (by show ¬ x ∈ ([] : List Int); simp)
  · intro x hx; exact absurd hx (by show ¬ x ∈ ([] : List Int); simp)
theorem pp_ln (sch k wide : Int) (v : List Int) (s : Nat) (n : List Int) : lnS 5000 (ppS sch k wide v s n) := by
  by_cases h : ppE sch k wide v = 0
  · rw [pp_is h]
    obtain ⟨h1, hp, h3⟩ := ppE_ok.1 h
    unfold wayS
    split
    · exact (prsS_ln v k).more (by decide)
    · split
      · exact prq_ln
      · split
        · exact (sgS_ln v).more (by decide)
        · exact ⟨by show ([] : List Int).length ≤ 5000; simp, by show v.length ≤ 5000; omega, by show ([] : List Int).length ≤ 5000; simp, by show ([] : List Bool).length ≤ 5000; simp⟩
  · rw [show ppS sch k wide v s n = zeroS from if_neg h]
    exact ln_zero _
theorem pp_wf {sch k wide : Int} {v : List Int} {s : Nat} {n : List Int} (hw : I64 wide) (uv : ∀ x ∈ v, I64 x) : wfS (ppS sch k wide v s n) := by
  by_cases h : ppE sch k wide v = 0
  · rw [pp_is h]
    obtain ⟨h1, hp, h3⟩ := ppE_ok.1 h
    have h0 : v ≠ [] := fun e => by have := hp.1; rw [e] at this; simp at this
    unfold wayE at h3
    unfold wayS
    by_cases s1 : sch = 1
    · rw [if_pos s1] at h3 ⊢
      have hk : pikE v k = 0 := by unfold prsE at h3; rwa [if_neg h0] at h3
      exact (prs_may uv h0 hk).2.1
    · rw [if_neg s1]
      split
      · exact prq_wf hw
      · split
        · exact sgS_wf
        · exact den_wf h1 uv
  · rw [show ppS sch k wide v s n = zeroS from if_neg h]
    exact wf_zeroS
end Go.Proofs.YtecgbelgoomneaaGreat
/- Bodies, texts, and how many bytes, by the program. -/
namespace Go.Proofs.YtecgbelgoomneaaGreat
open Go.RowKit
set_option maxHeartbeats 1000000
set_option maxRecDepth 100000
set_option linter.unusedVariables false
theorem wx_body (s : SentV) (p : SentP) (hn : lnS 5000 s) (hw : wfS s) (hm : mayP s) (w : World) (ra : RdS w w.heap.size s p) :
    Calls Tryz.prog 59 #[encT s p] w (OwnOf 5 .u8 w.heap.size (bodyL s) w) := by
  have rb : ∀ W, Below w.heap.size w W → RdS W W.heap.size s p := fun W h => ⟨(ra.1.below h).more h.size, (ra.2.1.below h).more h.size, (ra.2.2.1.below h).more h.size, (ra.2.2.2.below h).more h.size⟩
  obtain ⟨hd1, hd4, hc⟩ := hm
  have hsc : I64 s.scale := hw.2.2.2.2.1
  unfold I64 at hsc
  have lv : (sgnd s.V).length ≤ 50000 := by have := sgnd_len hw.2.2.2.1; have := hn.2.1; omega
  have lp := pixV_len s.dim s.L
  rcases hc with ⟨e, h⟩ | ⟨e, h⟩ | ⟨e, h1, h2, h3, h4, h5, h6, h7, h8⟩ | ⟨e, h1, h2, h3, h4, h5, h6⟩
  · have hh := wx_bodyK_dense s p e hd1 hd4 (sgnd s.V) (by omega) w (fun W h => wx_dense s p hn hw W (rb W h))
    have eb : ([s.sch] ++ encs [s.dim]) ++ sgnd s.V = bodyL s := by
      unfold bodyL tailL
      rw [if_pos e, encs_one]; simp
    rw [eb] at hh; exact hh
  · have hh := wx_bodyK_top s p e hd1 hd4 (pixV s.dim s.L ++ sgnd s.V) (by have a := plc_le (chk_ok.1 h.1); have b := h.2.1; have c := sgnd_len hw.2.2.2.1; rw [List.length_append]; omega) w (fun W h => wx_top s p hn hw W (rb W h))
    have eb : ([s.sch] ++ encs [s.dim]) ++ (pixV s.dim s.L ++ sgnd s.V) = bodyL s := by
      unfold bodyL tailL
      rw [if_neg (by omega), if_pos e, encs_one]; simp
    rw [eb] at hh; exact hh
  · have hwl2 : (wevV s.wide s.lev).length ≤ 5000 := by
      have hb8 : bysE s.wide s.lev.length = 0 := by unfold bysE; rw [if_neg (by omega), if_neg (by omega)]
      have hme : mayE s.wide s.lev = 0 := by unfold mayE; rw [if_pos hb8, if_pos h4]
      have h9 : s.wide.toNat * s.lev.length ≤ 8 * 4096 := Nat.mul_le_mul (by omega) (by omega)
      rw [((may_same s.wide s.lev).2 hme).2]; omega
    have l1 := lebI_ten (n := s.scale) (by unfold U64; omega)
    have l2 := sgnV_len (l := s.neg) (by omega)
    have hh := wx_bodyK_level s p e hd1 hd4 (lebI s.scale ++ ((s.wide :: wevV s.wide s.lev) ++ sgnV s.neg)) (by simp; omega) w (fun W h => wx_level s p hn hw h7 h1 h2 (by omega) h4 W (rb W h))
    have eb : ([s.sch] ++ encs [s.dim]) ++ (lebI s.scale ++ ((s.wide :: wevV s.wide s.lev) ++ sgnV s.neg)) = bodyL s := by
      unfold bodyL tailL
      rw [if_neg (by omega), if_neg (by omega), if_pos e, encs_one]; simp
    rw [eb] at hh; exact hh
  · have l1 := lebI_ten (n := s.scale) (by unfold U64; omega)
    have l2 := sgnV_len (l := s.neg) (by omega)
    have hh := wx_bodyK_sign s p e hd1 hd4 (lebI s.scale ++ sgnV s.neg) (by simp; omega) w (fun W h => wx_sign s p hn h5 hsc.2 W (rb W h))
    have eb : ([s.sch] ++ encs [s.dim]) ++ (lebI s.scale ++ sgnV s.neg) = bodyL s := by
      unfold bodyL tailL
      rw [if_neg (by omega), if_neg (by omega), if_neg (by omega), encs_one]; simp
    rw [eb] at hh; exact hh
theorem wx_Body (s : SentV) (p : SentP) (hn : lnS 5000 s) (hw : wfS s) (w : World) (ra : RdS w w.heap.size s p) :
    Calls Tryz.prog 48 #[encT s p] w (OwnE 5 .u8 w.heap.size (bodyV s) (bodyE s) w) := by
  have rb : ∀ W, Below w.heap.size w W → RdS W W.heap.size s p := fun W h => ⟨(ra.1.below h).more h.size, (ra.2.1.below h).more h.size, (ra.2.2.1.below h).more h.size, (ra.2.2.2.below h).more h.size⟩
  have CM := hid (fun W (h : Below w.heap.size w W) => fs_May s p (hn.more (by omega)) hw W (rb W h))
  unfold bodyV bodyE
  by_cases hm : mayB s = true
  · rw [if_pos hm, if_pos hm]
    have CB := hid (fun W (h : Below w.heap.size w W) => wx_body s p hn hw (mayB_iff.1 hm) W (rb W h))
    rw [hm] at CM
    obtain ⟨R, hR⟩ : ∃ R, bodyL s = R := ⟨_, rfl⟩
    rw [hR] at CB ⊢
    have HB0 := hid (boxT_new w s p 32)
    clear hR hm ra rb hn hw
    go_enter Tryz.func48, Tryz.ntmps48
    go_wp2_with fail
    refine (CM.out _ (by go_grown)).mono ?_
    rintro _ w1 ⟨rfl, hb1⟩
    have k1 : Below w.heap.size w w1 := Below.trans (by go_grown) (hb1.mono (by simp))
    have HB1 := hid (HB0.out.below hb1 (by simp))
    obtain ⟨⟨c0, c1, c2, c3, c4, c5, c6, c7⟩, _⟩ := HB1.out.eight
    clear hb1 HB0
    go_wp2_with fail
    refine (CB.out _ k1).mono ?_
    rintro _ w2 ⟨A2, d2, rfl, ho2, hb2⟩
    have HO := hid (own_base ho2 k1.size)
    clear ho2
    go_wp2_with fail
    go_ret2
    exact ⟨A2, d2, rfl, HO.out, k1.trans (hb2.mono k1.size)⟩
  · rw [if_neg hm, if_neg hm]
    have hm' : mayB s = false := by cases h : mayB s with
      | false => rfl
      | true => exact absurd h hm
    rw [hm'] at CM
    clear hm hm' ra rb hn hw
    go_enter Tryz.func48, Tryz.ntmps48
    go_wp2_with fail
    refine (CM.out _ (by go_grown)).mono ?_
    rintro _ w1 ⟨rfl, hb1⟩
    have k1 : Below w.heap.size w w1 := Below.trans (by go_grown) (hb1.mono (by simp))
    go_wp2_with fail
    go_ret2
    exact .nil k1
end Go.Proofs.YtecgbelgoomneaaGreat
