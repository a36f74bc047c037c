
/- A text opened, by the program and by the document. -/
import Derived.Test.YtgkkliibeiklbaaCrcD
import Derived.Deep.RegionHeld3
import Derived.Laws.Cover3
namespace Go.Proofs.Ytgkkliibeiklbaa
open Go.RowKit
set_option maxHeartbeats 400000
set_option linter.unusedVariables false
theorem equal_quad (a b c d a' b' c' d' : Int) (w : World) :
    (Op.equalIn 10000 58 (.agg #[.int .u8 a, .int .u8 b, .int .u8 c, .int .u8 d]) (.agg #[.int .u8 a', .int .u8 b', .int .u8 c', .int .u8 d'])).run Try.prog w = .ok (eqB [a, b, c, d] [a', b', c', d']) w := by
  have h0 : ∀ (x y z t : Int) (w : World), (part 5 #[.int .u8 x, .int .u8 y, .int .u8 z, .int .u8 t] 0).run Try.prog w = .ok (.int .u8 x) w := fun _ _ _ _ _ => by kernel_rfl
  have h1 : ∀ (x y z t : Int) (w : World), (part 5 #[.int .u8 x, .int .u8 y, .int .u8 z, .int .u8 t] 1).run Try.prog w = .ok (.int .u8 y) w := fun _ _ _ _ _ => by kernel_rfl
  have h2 : ∀ (x y z t : Int) (w : World), (part 5 #[.int .u8 x, .int .u8 y, .int .u8 z, .int .u8 t] 2).run Try.prog w = .ok (.int .u8 z) w := fun _ _ _ _ _ => by kernel_rfl
  have h3 : ∀ (x y z t : Int) (w : World), (part 5 #[.int .u8 x, .int .u8 y, .int .u8 z, .int .u8 t] 3).run Try.prog w = .ok (.int .u8 t) w := fun _ _ _ _ _ => by kernel_rfl
  have hs : (sizeOf 5).run Try.prog w = .ok 1 w := by kernel_rfl
  rw [show (10000 : Nat) = 9998 + 1 + 1 from rfl]
  unfold Op.equalIn
  simp only [Sem.run_bind, run_underlying Try.underlying58, Result.andThen_ok, hs]
  simp only [Std.Legacy.Range.forIn_eq_forIn_range', Std.Legacy.Range.size]
  simp only [Nat.sub_zero, Nat.reduceAdd, Nat.reduceSub, Nat.reduceDiv, List.range', List.forIn_cons, List.forIn_nil, Sem.run_bind]
  have h4 : ∀ x y : Int, (Op.equalIn 9999 5 (.int .u8 x) (.int .u8 y)).run Try.prog w = .ok (x == y) w := fun x y => run_equalIn_int w 9998 _ _ _ _ _ Try.underlying5
  simp only [Nat.zero_mul, Nat.one_mul, h0, h4, Result.andThen_ok]
  unfold eqB
  by_cases e0 : a = a'
  · subst e0
    by_cases e1 : b = b'
    · subst e1
      by_cases e2 : c = c'
      · subst e2
        by_cases e3 : d = d' <;> simp [h1, h2, h3, h4, e3]
      · simp [h1, h2, h4, e2]
    · simp [h1, h4, e1]
  · simp [e0]
attribute [local go_sem] equal_quad
theorem seen_four {b : List Int} {p : Nat} (hp : p + 4 = b.length) : ∃ x0 x1 x2 x3, b.drop p = [x0, x1, x2, x3] ∧ b[p]? = some x0 ∧ b[p + 1]? = some x1 ∧ b[p + 2]? = some x2 ∧ b[p + 3]? = some x3 := by
  have hl : (b.drop p).length = 4 := by rw [List.length_drop]; omega
  match hd : b.drop p, hl with
  | [x0, x1, x2, x3], _ =>
    have at_ : ∀ j, b[p + j]? = ([x0, x1, x2, x3] : List Int)[j]? := fun j => by rw [← hd, List.getElem?_drop]
    exact ⟨x0, x1, x2, x3, rfl, at_ 0, at_ 1, at_ 2, at_ 3⟩
theorem crc_Open {A : Option Addr} {c : Nat} (b : List Int) (hb : b.length ≤ 1000000) (hc : b.length ≤ c) (ub : U8s b) (w : World) (ra : Rd (Value.int .u8) w w.heap.size A b) :
    Calls Try.prog 22 #[.slice A b.length c] w (OwnE 5 .u8 w.heap.size (openV b) (openE b) w) := by
  unfold openV openE
  by_cases h : 65536 < b.length
  · rw [if_pos (Or.inl h), if_pos h]
    clear ra ub
    go_enter Try.func22, Try.ntmps22
    go_wp2_with fail
    go_ret2
    exact .nil (Below.refl _ _)
  by_cases h4 : b.length < 4
  · rw [if_pos (Or.inr (Or.inl h4)), if_neg h, if_pos h4]
    clear ra ub
    go_enter Try.func22, Try.ntmps22
    go_wp2_with fail
    go_ret2
    exact .nil (Below.refl _ _)
  obtain ⟨p, hp⟩ : ∃ p, p + 4 = b.length := ⟨b.length - 4, by omega⟩
  obtain ⟨x0, x1, x2, x3, hd, r0, r1, r2, r3⟩ := seen_four hp
  obtain ⟨b1, o1, _, rfl, l1, hr0, c0⟩ := ra.at_ (k := p) (by omega)
  obtain ⟨b2, o2, e2, _, c1⟩ := ra _ _ r1
  injection e2 with e2
  injection e2 with e2 e3
  subst e2 e3
  obtain ⟨b2, o2, e2, _, c2⟩ := ra _ _ r2
  injection e2 with e2
  injection e2 with e2 e3
  subst e2 e3
  obtain ⟨b2, o2, e2, _, c3⟩ := ra _ _ r3
  injection e2 with e2
  injection e2 with e2 e3
  subst e2 e3
  obtain rfl : x0 = _ := Option.some.inj (r0.symm.trans hr0)
  clear r0 r1 r2 r3 hr0
  have c1 : w.cell? ⟨b1, o1 + p + 1, none⟩ = some (.int .u8 x1) := c1
  have c2 : w.cell? ⟨b1, o1 + p + 2, none⟩ = some (.int .u8 x2) := c2
  have c3 : w.cell? ⟨b1, o1 + p + 3, none⟩ = some (.int .u8 x3) := c3
  have hpe : b.length - 4 = p := by omega
  have hcp : c ≠ p := by omega
  have hse : sealedB b = eqB [x0, x1, x2, x3] [tl (sumN (b.take p)) 4 0, tl (sumN (b.take p)) 4 1, tl (sumN (b.take p)) 4 2, tl (sumN (b.take p)) 4 3] := by
    unfold sealedB sealedB.eqL eqB
    rw [hpe, hd, tl4]
  rw [hpe, hse]
  clear hse hd hpe
  have hs1 := fun W => run_upto (P := Try.prog) 22 Try.underlying22 Try.sizeOf5 (some ⟨b1, o1, none⟩) b.length c p (by omega) W
  have hs2 := fun W => run_from (P := Try.prog) 22 Try.underlying22 Try.sizeOf5 (some ⟨b1, o1, none⟩) b.length c p (by omega) (by omega) W
  have e2 : cutA (some ⟨b1, o1, none⟩) p c = some ⟨b1, o1 + p, none⟩ := by unfold cutA; rw [if_neg hcp]; simp [Go.WideShapes.add_plain]
  rw [e2, show b.length - p = 4 by omega] at hs2
  have rT := ra.cut0 hc p
  have uT := ub.take p
  have lT : (b.take p).length = p := by rw [List.length_take]; omega
  obtain ⟨T, hT⟩ : ∃ T, b.take p = T := ⟨_, rfl⟩
  obtain ⟨A3, hA3⟩ : ∃ A3, cutA (some ⟨b1, o1, none⟩) 0 c = A3 := ⟨_, rfl⟩
  rw [hA3] at rT hs1
  rw [hT] at rT uT lT ⊢
  have CT := hid (fun W (hk : Below w.heap.size w W) => crc_tail (A := A3) (c := c) T (by omega) uT W ((rT.below hk).more hk.size))
  have CL := hid (fun W (hk : Below w.heap.size w W) => clone_any (A := A3) (c := c) T (by omega) W (rT.below hk))
  rw [lT] at CT CL
  obtain ⟨s, hs⟩ : ∃ s, sumN T = s := ⟨_, rfl⟩
  rw [hs] at CT ⊢
  obtain ⟨y0, e0⟩ : ∃ y, tl s 4 0 = y := ⟨_, rfl⟩
  obtain ⟨y1, e1⟩ : ∃ y, tl s 4 1 = y := ⟨_, rfl⟩
  obtain ⟨y2, e2⟩ : ∃ y, tl s 4 2 = y := ⟨_, rfl⟩
  obtain ⟨y3, e3⟩ : ∃ y, tl s 4 3 = y := ⟨_, rfl⟩
  rw [e0, e1, e2, e3] at CT ⊢
  have hm : (b.length : Int) - 4 = (p : Int) := by omega
  have LT := hid lT
  have HP := hid hp
  clear e0 e1 e2 e3 hs hT hA3 lT rT uT ra ub hp hcp
  obtain ⟨q, hq⟩ : ∃ q, eqB [y0, y1, y2, y3] [x0, x1, x2, x3] = q := ⟨_, rfl⟩
  have hq' : eqB [x0, x1, x2, x3] [y0, y1, y2, y3] = q := by rw [← hq]; unfold eqB; simp only [eq_comm]
  rw [hq']
  clear hq'
  have lx := l1
  have hat := fun W => run_arrayAt (P := Try.prog) W 58 _ 4 (some ⟨b1, o1 + p, none⟩) 4 (c - p) Try.underlying58 (by omega)
  cases q with
  | false =>
    rw [if_pos (Or.inr (Or.inr rfl)), if_neg h, if_neg h4, if_pos rfl]
    have h65 : ¬ 65536 < b.length := h
    go_enter Try.func22, Try.ntmps22
    go_wp2_with fail
    go_region_held3 (fun w' => w'.cell? ⟨b1, o1 + p, none⟩ = some (.int .u8 x0) ∧ w'.cell? ⟨b1, o1 + p + 1, none⟩ = some (.int .u8 x1) ∧ w'.cell? ⟨b1, o1 + p + 2, none⟩ = some (.int .u8 x2) ∧ w'.cell? ⟨b1, o1 + p + 3, none⟩ = some (.int .u8 x3) ∧ Below w.heap.size w w') (first | exact ⟨c0, c1, c2, c3, (Below.refl _ _).drew⟩ | (have hk := below_step ((Below.refl _ _).drew) hb1 (Nat.le_refl _); exact ⟨(hk.cell lx).trans c0, (hk.cell lx).trans c1, (hk.cell lx).trans c2, (hk.cell lx).trans c3, hk⟩) | go_keep)
      (first | (go_at_call 46; refine (CT.out _ (by go_grown)).mono ?_; rintro e w1 ⟨rfl, hb1⟩))
    all_goals
      have hk := below_step ((Below.refl _ _).drew) hb1 (Nat.le_refl _)
      clear c0 c1 c2 c3 hs1 hs2 hm hat hq e2
      go_wp2_with fail
      go_ret2
      exact .nil hk
  | true =>
    rw [if_neg (by simp only [Bool.true_eq_false, or_false]; omega), if_neg h, if_neg h4, if_neg (by simp)]
    go_enter Try.func22, Try.ntmps22
    go_wp2_with fail
    go_region_held3 (fun w' => w'.cell? ⟨b1, o1 + p, none⟩ = some (.int .u8 x0) ∧ w'.cell? ⟨b1, o1 + p + 1, none⟩ = some (.int .u8 x1) ∧ w'.cell? ⟨b1, o1 + p + 2, none⟩ = some (.int .u8 x2) ∧ w'.cell? ⟨b1, o1 + p + 3, none⟩ = some (.int .u8 x3) ∧ Below w.heap.size w w') (first | exact ⟨c0, c1, c2, c3, (Below.refl _ _).drew⟩ | (have hk := below_step ((Below.refl _ _).drew) hb1 (Nat.le_refl _); exact ⟨(hk.cell lx).trans c0, (hk.cell lx).trans c1, (hk.cell lx).trans c2, (hk.cell lx).trans c3, hk⟩) | go_keep)
      (first | (go_at_call 46; refine (CT.out _ (by go_grown)).mono ?_; rintro e w1 ⟨rfl, hb1⟩))
    all_goals
      have hk := below_step ((Below.refl _ _).drew) hb1 (Nat.le_refl _)
      clear c0 c1 c2 c3 hs1 hs2 hm hat hq e2
      go_wp2_with fail
      refine (CL.out _ hk).mono ?_
      rintro _ w3 ⟨A4, c4, rfl, ho, hb4⟩
      have HO := hid (own_base ho hk.size)
      clear ho
      go_wp2_with fail
      go_ret2
      exact ⟨A4, c4, rfl, HO.out, hk.trans (hb4.mono hk.size)⟩
theorem ref_Open {A : Option Addr} {c : Nat} (b : List Int) (hb : b.length ≤ 1000000) (hc : b.length ≤ c) (ub : U8s b) (w : World) (ra : Rd (Value.int .u8) w w.heap.size A b) :
    Calls Try.prog 23 #[.slice A b.length c] w (OwnE 5 .u8 w.heap.size (openV b) (openE b) w) := by
  unfold openV openE
  by_cases h : 65536 < b.length
  · rw [if_pos (Or.inl h), if_pos h]
    clear ra ub
    go_enter Try.func23, Try.ntmps23
    go_wp2_with fail
    go_ret2
    exact .nil (Below.refl _ _)
  by_cases h4 : b.length < 4
  · rw [if_pos (Or.inr (Or.inl h4)), if_neg h, if_pos h4]
    clear ra ub
    go_enter Try.func23, Try.ntmps23
    go_wp2_with fail
    go_ret2
    exact .nil (Below.refl _ _)
  obtain ⟨p, hp⟩ : ∃ p, p + 4 = b.length := ⟨b.length - 4, by omega⟩
  have hpe : b.length - 4 = p := by omega
  have hs1 := fun W => run_upto (P := Try.prog) 22 Try.underlying22 Try.sizeOf5 A b.length c p (by omega) W
  have rT := ra.cut0 hc p
  have uT := ub.take p
  have lT : (b.take p).length = p := by rw [List.length_take]; omega
  have hse : sealedB b = eqB (b.drop p) (le4 (sumN (b.take p))) := by unfold sealedB sealedB.eqL eqB; rw [hpe]
  have hsl : eqB (sealV (b.take p)) b = sealedB b := by
    rw [hse]
    unfold sealV eqB
    rw [if_neg (by rw [lT]; omega)]
    apply decide_eq_decide.2
    constructor
    · intro h
      have h2 := congrArg (List.drop p) h
      rw [List.drop_append_of_le_length (by omega), List.drop_eq_nil_of_le (by omega), List.nil_append] at h2
      exact h2.symm
    · intro h
      rw [← h, List.take_append_drop]
  have hsv : (sealV (b.take p)).length ≤ 1000000 := by
    unfold sealV
    split
    · simp
    · rw [List.length_append, le4_len]; omega
  have usv : U8s (sealV (b.take p)) := by
    unfold sealV
    split
    · intro x hx; simp at hx
    · exact uT.app (le4_bytes _)
  rw [hpe]
  clear hse
  obtain ⟨T, hT⟩ : ∃ T, b.take p = T := ⟨_, rfl⟩
  obtain ⟨A3, hA3⟩ : ∃ A3, cutA A 0 c = A3 := ⟨_, rfl⟩
  rw [hA3] at rT hs1
  rw [hT] at rT uT lT hsl hsv usv ⊢
  have hm : (b.length : Int) - 4 = (p : Int) := by omega
  have HSe := hid (fun (A4 : Option Addr) (c4 : Nat) W (h : Rd (Value.int .u8) W W.heap.size A4 T) => ref_Seal (A := A4) (c := c4) T (by omega) uT W h)
  have RA := hid ra
  have RT := hid rT
  have UB := hid ub
  have hap := own_nil w w.heap.size 5
  obtain ⟨V, hV⟩ : ∃ V, sealV T = V := ⟨_, rfl⟩
  obtain ⟨ve, hve⟩ : ∃ ve, sealE T = ve := ⟨_, rfl⟩
  rw [hV] at hsl hsv usv
  rw [hV, hve] at HSe
  have hst := str_eq usv ub
  rw [hsl] at hst
  have LT := hid lT
  have HT2 : Hid (T.length ≤ 65532) := hid (by rw [lT]; omega)
  have hTp : (p : Nat) = T.length := lT.symm
  clear hT hA3 rT uT ub ra hV hve hsl lT hpe hp
  subst hTp
  obtain ⟨q, hq⟩ : ∃ q, sealedB b = q := ⟨_, rfl⟩
  rw [hq] at hst ⊢
  clear hq
  obtain ⟨s1, hs1'⟩ : ∃ s, strOfNums V = s := ⟨_, rfl⟩
  obtain ⟨s2, hs2'⟩ : ∃ s, strOfNums b = s := ⟨_, rfl⟩
  rw [hs1', hs2'] at hst
  have HS1 := hid hs1'
  have HS2 := hid hs2'
  clear hs1' hs2'
  have hsz : T.length ≤ 65532 := HT2.out
  have HST := hid hst
  clear hst
  obtain ⟨X, hX⟩ : ∃ X, (if 65536 < b.length ∨ b.length < 4 ∨ q = false then [] else T) = X := ⟨_, rfl⟩
  obtain ⟨E, hE⟩ : ∃ E, (if 65536 < b.length then (3 : Int) else if b.length < 4 then 5 else if q = false then 7 else 0) = E := ⟨_, rfl⟩
  rw [hX, hE]
  rw [if_neg h, if_neg h4] at hE
  have HXE : Hid ((q = false → X = [] ∧ E = 7) ∧ (q = true → X = T ∧ E = 0)) := by
    constructor
    · rintro rfl
      exact ⟨by rw [← hX]; simp, by rw [← hE]; rfl⟩
    · rintro rfl
      exact ⟨by rw [← hX, if_neg (by simp only [Bool.true_eq_false, or_false]; omega)], by rw [← hE]; rfl⟩
  clear hX hE
  go_enter Try.func23, Try.ntmps23
  go_wp2_with (at_builtin; refine wpList_app (Value.int .u8) (fun _ => rfl) _ rfl _ _ 22 rfl w.heap.size 5 (.int .u8 0) 1 Try.underlying22 info_u8 rfl [] none 0 rfl hap T A3 c w.heap.size rfl RT.out (by simp [maxLen]; omega) (by simp; omega) (Nat.le_refl _) ?_)
  rintro S A4 c4 w4 hS ho hb4 _
  have hS : S = T := hS
  subst hS
  have HO4 := hid ho
  have hr4 := own_rd ho
  clear ho hap
  go_wp2_with fail
  refine (HSe.out _ _ _ hr4).mono ?_
  rintro _ w5 ⟨A5, c5, rfl, ho5, hb5⟩
  have hb45 : Below w.heap.size w w5 := hb4.trans (hb5.mono hb4.size)
  have e1 := run_bytes (P := Try.prog) (c := c5) Try.underlying22 Try.underlying5 Try.underlying9 (own_rd ho5)
  have e2 := run_bytes (P := Try.prog) (c := c) Try.underlying22 Try.underlying5 Try.underlying9 (RA.out.below hb45)
  rw [HS1.out] at e1
  rw [HS2.out] at e2
  have HO5 := hid (own_on HO4.out hb5)
  have hst := HST.out
  clear ho5 hr4 hs1 hm
  cases q with
  | false =>
    obtain ⟨hX, hE⟩ := HXE.out.1 rfl
    subst hX hE
    go_wp2_with fail
    go_ret2
    exact .nil hb45
  | true =>
    obtain ⟨hX, hE⟩ := HXE.out.2 rfl
    subst hX hE
    go_wp2_with fail
    go_ret2
    exact ⟨A4, c4, rfl, HO5.out, hb45⟩
end Go.Proofs.Ytgkkliibeiklbaa
