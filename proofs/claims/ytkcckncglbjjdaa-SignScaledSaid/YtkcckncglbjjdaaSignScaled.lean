
/-
  SignScaled answers true for every input. No condition.
-/
import Derived.Test.YtkcckncglbjjdaaNg
import Derived.Test.YtkcckncglbjjdaaNFrB
import Derived.Test.YtkcckncglbjjdaaNd
import Derived.Test.YtkcckncglbjjdaaNd
namespace Go.Proofs.Ytkcckncglbjjdaa.SignScaled
open Go.ChangeShapes Go.WideShapes Go.ChangeAt Go.RowKit
set_option maxHeartbeats 400000
set_option linter.unusedVariables false
open Go.Proofs.Ytkcckncglbjjdaa
set_option maxRecDepth 100000 in
/-- A region that draws, walked once, in a class of worlds of one's own. -/
theorem region_ten {P : Program} {C : World → Prop} {id : Nat} {Q : Exit → Act → World → Prop} {a : Act} {w : World} {l : List Oper} (hm : P.follows .mixedOrders = true) (hB : Region.lexB .any l.toArray = true) (hC : C w.drew)
    (h : wpQuiet P l.toArray C (fun a' => ∀ w', C w' → Q .normal a' w') l a) : (Code.region id l.toArray true).wp P Q a w :=
  wp_region_quiet hm hB hC (by simpa using h)
theorem sum_one {v : List Int} {x : Int} (h : x ∈ v) : szN x ≤ sumS v := by
  induction v with
  | nil => simp at h
  | cons y t ih =>
    rw [sumS_cons]
    rcases List.mem_cons.1 h with rfl | h
    · omega
    · have := ih h; omega
theorem sum_le {b : Nat} : ∀ {v : List Int}, (∀ x ∈ v, szN x ≤ b) → sumS v ≤ v.length * b
  | [], _ => by simp [sumS]
  | x :: t, h => by
    rw [sumS_cons, List.length_cons, Nat.succ_mul]
    have h1 := h x (by simp)
    have h2 := sum_le fun y hy => h y (List.mem_cons_of_mem x hy)
    omega
/-- So many times greater. -/
def tmS (c : Int) (v : List Int) : List Int := v.map fun n => c * n
theorem tmS_len (c : Int) (v : List Int) : (tmS c v).length = v.length := by unfold tmS; rw [List.length_map]
theorem tmS_snoc {c : Int} {v : List Int} {k : Nat} {x : Int} (hx : v[k]? = some x) : tmS c (v.take (k + 1)) = tmS c (v.take k) ++ [c * x] := by
  rw [List.take_add_one, hx]
  unfold tmS
  rw [List.map_append]
  rfl
theorem take_one {v : List Int} {k : Nat} {x : Int} (hx : v[k]? = some x) : v.take (k + 1) = v.take k ++ [x] := by
  rw [List.take_add_one, hx]
  rfl
theorem scaled_ok {v : List Int} {B : Int} (h0 : v ≠ []) (hB1 : 1 ≤ B) (hB2 : B ≤ 1000) (hl : v.length ≤ 4096) (hb : ∀ x ∈ v, -1099511627776 ≤ x ∧ x ≤ 1099511627776) :
    mnE v = 0 ∧ mnE (tmS B v) = 0 ∧ B * mnV v ≤ mnV (tmS B v) ∧ mnV (tmS B v) < B * mnV v + B ∧ sgN (tmS B v) = sgN v ∧ 0 ≤ mnV v ∧ mnV (tmS B v) ≤ 4503599627370496000 ∧ ∀ y ∈ tmS B v, I64 y := by
  have s1 : sumS v ≤ v.length * 1099511627776 := sum_le fun x hx => by have := hb x hx; unfold szN; omega
  have s2 : sumS v ≤ 4096 * 1099511627776 := Nat.le_trans s1 (Nat.mul_le_mul_right _ hl)
  have s3 : sumS (tmS B v) = B.toNat * sumS v := sumS_tm (c := B) (by omega) v
  have s4 : B.toNat * sumS v ≤ 1000 * (4096 * 1099511627776) := Nat.mul_le_mul (by omega) s2
  have s5 : sumS (tmS B v) ≤ 4503599627370496000 := by omega
  have s6 : sumS (v.map fun n => B * n) ≤ 9223372036854775807 := Nat.le_trans s5 (by decide)
  obtain ⟨a1, a2, a3, a4, a5⟩ := mn_scale h0 hB1 s6 hl
  refine ⟨a1, a2, a3, a4, a5, ?_, ?_, fun y hy => ?_⟩
  · unfold mnV; rw [if_pos a1]; omega
  · have a6 : mnE (tmS B v) = 0 := a2
    unfold mnV; rw [if_pos a6]; unfold mnN
    have := Nat.div_le_self (sumS (tmS B v)) (tmS B v).length
    omega
  · have h := sum_one hy
    unfold szN at h
    unfold I64
    omega
set_option maxHeartbeats 8000000 in
set_option maxRecDepth 100000 in
theorem walk (Av : Option Addr) (v : List Int) (cv : Nat) (by_ : Int) (w : World) (rv : Rd (Value.int .i64) w w.heap.size Av v) (uv : I64s v) (lv : v.length ≤ cv) (mv : cv ≤ 9223372036854775807) (hby : I64 by_) :
    Calls Try.prog 8 #[.slice Av v.length cv, .int .i64 by_] w fun e w' => e = .returned (.bool true) ∧ Below w.heap.size w w' := by
  have HV := hid rv
  have hv : v.length ≤ 9223372036854775807 := by omega
  have CF := hid (fun W => sg_few (A := Av) (c := cv) (B := none) (d := 0) [] hv (by simp) (by simp) W (RdBs.nil W W.heap.size none))
  rw [show ([] : List (List Bool)).length = 0 from rfl] at CF
  by_cases hl : fewS v.length [] = true ∧ v.length ≤ 4096 ∧ v.length ≠ 0
  · have h4 := hl.2.1
    have h0 := hl.2.2
    rw [hl.1] at CF
    have h4' : ¬ (v.length : Int) > 4096 := by omega
    have h00 : v ≠ [] := fun e => h0 (by rw [e]; rfl)
    have t2 : ((v.length : Int) == 0) = false := beq_eq_false_iff_ne.2 (by omega)
    have t3 : (v.length == 0) = false := beq_eq_false_iff_ne.2 h0
    obtain ⟨r, hr⟩ : ∃ r, Int.tmod by_ 1000 = r := ⟨_, rfl⟩
    have hr1 : -1000 < r ∧ r < 1000 := by
      rw [← hr]
      have a1 := Int.tmod_lt_of_pos by_ (show (0 : Int) < 1000 by omega)
      have a2 := Int.lt_tmod_of_pos by_ (show (0 : Int) < 1000 by omega)
      omega
    obtain ⟨B0, hB0⟩ : ∃ B0 : Nat, (r + 1000) % 1000 = (B0 : Int) := ⟨((r + 1000) % 1000).toNat, by omega⟩
    have hB1 : (B0 : Int) < 1000 := by omega
    obtain ⟨B, hB⟩ : ∃ B : Int, 1 + (B0 : Int) = B := ⟨_, rfl⟩
    have hB2 : 1 ≤ B := by omega
    have hB3 : B ≤ 1000 := by omega
    have UV : Hid (∀ x ∈ v, I64 x) := hid uv
    obtain ⟨X, hX⟩ : ∃ X, tmS B v = X := ⟨_, rfl⟩
    have hXl : X.length = v.length := by rw [← hX, tmS_len]
    have HXL := hid hXl
    have HSC := hid (fun hb => scaled_ok (v := v) h00 hB2 hB3 h4 hb)
    rw [hX] at HSC
    have HSN := hid (fun (j : Nat) (x : Int) (hx : v[j]? = some x) => tmS_snoc (c := B) hx)
    have HTE := hid (show tmS B (v.take v.length) = X by rw [List.take_length, hX])
    have HTL := hid (fun j => show (tmS B (v.take j)).length ≤ 4096 by rw [tmS_len, List.length_take]; omega)
    have HT0 : Hid (tmS B (v.take 0) = []) := rfl
    have HI := hid (fun (x : Int) (h1 : -1099511627776 ≤ x) (h2 : x ≤ 1099511627776) => (scaled_ok (v := [x]) (by simp) hB2 hB3 (by simp) (by intro y hy; simp at hy; omega)).2.2.2.2.2.2.2 (B * x) (by unfold tmS; simp))
    clear hX hXl uv rv h00 hl h0
    go_enter Try.func8, Try.ntmps8
    go_wp2_with fail
    refine (sg_live _).mono ?_
    rintro _ w1 ⟨rfl, k1⟩
    go_wp2_with fail
    refine (CF.out w1).mono ?_
    rintro _ _ ⟨rfl, rfl⟩
    clear CF
    go_wp2_with fail
    try rw [hB0]
    clear hB0
    go_loopw [6, 8, 37] (fun x6 x8 i wr => ∃ (j : Nat) (S : List Int) (A2 : Option Addr) (c2 : Nat), j ≤ v.length ∧ i = .int .i64 j ∧ x6 = .slice A2 S.length c2 ∧ S = tmS B (v.take j) ∧ (∀ x ∈ v.take j, -1099511627776 ≤ x ∧ x ≤ 1099511627776) ∧ wr.ownsRow w1.heap.size 2 1 (.slice A2 S.length c2) S.length (S.map (Value.int .i64)) ∧ Below w1.heap.size w1 wr) (fun _ _ i _ => v.length - (intOf i).toNat)
    case atStart => exact ⟨0, [], none, 0, by omega, rfl, rfl, HT0.out.symm, by simp, own_nil _ _ _, Below.refl _ _⟩
    case round =>
      obtain ⟨j, S, A2, c2, hj, rfl, rfl, hS, hb, ho, hbel⟩ := hrel
      have HS := hid hS
      have HBD := hid hb
      have HO := hid ho
      have hSl : S.length ≤ 4096 := by rw [hS]; exact HTL.out j
      have kw := k1.trans (hbel.mono k1.size)
      clear hS hb ho
      by_cases hlt : j < v.length
      · obtain ⟨b1, o1, x, rfl, l1, ex, d1⟩ := (HV.out.below kw).at_ hlt
        by_cases hx1 : x > 1099511627776
        · clear ex
          go_wp2_with fail
          go_ret
          exact ⟨rfl, kw⟩
        · by_cases hx2 : x < -1099511627776
          · clear ex
            go_wp2_with fail
            go_ret
            exact ⟨rfl, kw⟩
          · have HN := hid (HSN.out j x ex)
            have hI := HI.out x (by omega) (by omega)
            have HBD2 := hid (show ∀ y ∈ v.take (j + 1), -1099511627776 ≤ y ∧ y ≤ 1099511627776 by
              rw [take_one ex]
              intro y hy
              rcases List.mem_append.1 hy with hy | hy
              · exact HBD.out y hy
              · simp at hy; omega)
            have hw := I64.wrap_in hI
            obtain ⟨z, hz⟩ : ∃ z, B * x = z := ⟨_, rfl⟩
            rw [hz] at HN hI hw
            unfold I64 at hI
            have hw2 : IntKind.i64.wrap z = z := by rw [IntKind.wrap_i64]; omega
            have hr0 : Rd (Value.int .i64) (wr.alloc (.cells #[.int .i64 z] 2)) _ (some ⟨wr.heap.size, 0, none⟩) [z] := rd_one (one_cell wr (.int .i64 z) 2).1
            have hz0 := (one_cell wr (.int .i64 z) 2).2
            have h0' := own_on HO.out hz0
            clear ex
            go_wp2_with (at_builtin; refine wpList_app (Value.int .i64) (fun _ => rfl) _ rfl _ _ 22 rfl w1.heap.size 2 (.int .i64 0) 8 Try.underlying22 info_i64 rfl S A2 c2 rfl h0' [z] _ 1 _ rfl hr0 (by simp [maxLen]; omega) (by simp; omega) (by have := hbel.size; simp; omega) ?_)
            rintro S' A' c' w4 hS' ho4 hb4 _
            have HO4 := hid ho4
            have HEQ := hid hS'
            clear hS' ho4 h0' hr0
            go_wp2_with fail
            go_roundw
            case rel => exact ⟨j + 1, S', A', c', by omega, by go_num, rfl, by rw [HEQ.out, HN.out, HS.out], HBD2.out, HO4.out, (hbel.alloc hbel.size _).trans hb4⟩
            case measure => simp [intOf]; omega
      · have hje : j = v.length := by omega
        have hbd : ∀ x ∈ v, -1099511627776 ≤ x ∧ x ≤ 1099511627776 := by have h := HBD.out; rw [hje, List.take_length] at h; exact h
        have hSe : S = X := by rw [HS.out, hje, HTE.out]
        subst hSe
        obtain ⟨s1, s2, s3, s4, s5, s6, s7, uX⟩ := HSC.out hbd
        have RS := hid (own_rd HO.out)
        have C1 := hid (fun W h => (sn_Press (A := Av) (c := cv) v UV.out hv W h).mono fun e w' => gs_parts s1)
        have C2 := hid (fun A c W h => (sn_Press (A := A) (c := c) S uX (by omega) W h).mono fun e w' => gs_parts s2)
        have hXl := HXL.out
        obtain ⟨M1, hM1⟩ : ∃ M, mnV v = M := ⟨_, rfl⟩
        obtain ⟨M2, hM2⟩ : ∃ M, mnV S = M := ⟨_, rfl⟩
        have lN := sgN_len v
        obtain ⟨NG, hNG⟩ : ∃ L, sgN v = L := ⟨_, rfl⟩
        rw [s5, hXl, hM2, hNG] at C2
        rw [hM1, hNG] at C1
        rw [hM1] at s3 s4 s6
        rw [hM2] at s3 s4 s7
        rw [hNG] at lN
        have LN := hid lN
        have CS := hid (fun A B c d W (h1 : Rd Value.bool W W.heap.size A NG) (h2 : Rd Value.bool W W.heap.size B NG) => show Calls Try.prog 26 #[.slice A v.length c, .slice B v.length d] W fun e w' => e = .returned (.bool true) ∧ Below W.heap.size W w' by
          have h := ref_SignsEq (A := A) (B := B) (c := c) (d := d) NG NG (by omega) (by omega) W h1 h2
          rw [lN, eqN_yes (xs := NG) (ys := NG) (k := NG.length) rfl rfl rfl] at h
          refine h.mono ?_
          rintro _ _ ⟨rfl, n, rfl⟩
          exact ⟨rfl, belowN _ _ n⟩)
        have RO := hid (fun (base : Nat) (w' : World) (A : Option Addr) (c : Nat) (o : w'.ownsRow base 4 1 (.slice A v.length c) v.length (NG.map Value.bool)) => show Rd Value.bool w' w'.heap.size A NG from own_rd (base := base) (e := 4) (c := c) (by rw [LN.out]; exact o))
        obtain ⟨z, hz⟩ : ∃ z, B * M1 = z := ⟨_, rfl⟩
        rw [hz] at s3 s4
        have hz0 : 0 ≤ z := by rw [← hz]; exact Int.mul_nonneg (by omega) s6
        obtain ⟨y, hy⟩ : ∃ y, z + B = y := ⟨_, rfl⟩
        rw [hy] at s4
        have hw1 : wrap64 z = z := I64.wrap_in (by unfold I64; omega)
        have hw2 : IntKind.i64.wrap z = z := by rw [IntKind.wrap_i64]; omega
        have hw3 : wrap64 y = y := I64.wrap_in (by unfold I64; omega)
        have hw4 : IntKind.i64.wrap y = y := by rw [IntKind.wrap_i64]; omega
        have g1 : decide (M2 ≥ z) = true := decide_eq_true s3
        have g2 : decide (M2 < y) = true := decide_eq_true s4
        rw [hXl]
        clear HS HBD HO HTE HSC HSN HTL HT0 HI HXL UV hbd hje s1 s2 s3 s4 s5 s6 s7 uX hM1 hM2 hNG lN hz0 hXl hB2 hB3
        have Fz := hid hz
        have Fy := hid hy
        have F1 := hid hw1
        have F2 := hid hw2
        have F3 := hid hw3
        have F4 := hid hw4
        have F5 := hid g1
        have F6 := hid g2
        clear hz hy hw1 hw2 hw3 hw4 g1 g2
        go_wp2_with fail
        refine (C1.out wr (HV.out.on kw)).mono ?_
        rintro _ w4 ⟨A4, c4, rfl, o1, hb4⟩
        have k4 := kw.trans (hb4.mono kw.size)
        have RA4 := hid (RO.out _ w4 A4 c4 o1)
        have RS4 := hid (RS.out.on hb4)
        have g4 := sg_grow w4 (.cells #[.int .i64 3, .int .i64 (v.length : Int), .slice none 0 0, .slice none 0 0, .int .i64 M1, .int .i64 0, .slice none 0 0, .slice A4 v.length c4] 27)
        have n4 : BoxL (w4.alloc (.cells #[.int .i64 3, .int .i64 (v.length : Int), .slice none 0 0, .slice none 0 0, .int .i64 M1, .int .i64 0, .slice none 0 0, .slice A4 v.length c4] 27)) w4.heap.size [.int .i64 3, .int .i64 (v.length : Int), .slice none 0 0, .slice none 0 0, .int .i64 M1, .int .i64 0, .slice none 0 0, .slice A4 v.length c4] := BoxL.new w4 [.int .i64 3, .int .i64 (v.length : Int), .slice none 0 0, .slice none 0 0, .int .i64 M1, .int .i64 0, .slice none 0 0, .slice A4 v.length c4] 27
        obtain ⟨w5, hw5⟩ : ∃ wn, w4.alloc (.cells #[.int .i64 3, .int .i64 (v.length : Int), .slice none 0 0, .slice none 0 0, .int .i64 M1, .int .i64 0, .slice none 0 0, .slice A4 v.length c4] 27) = wn := ⟨_, rfl⟩
        rw [hw5] at g4 n4
        have k5 := k4.trans (g4.mono k4.size)
        have RA5 := hid (RA4.out.on g4)
        have RS5 := hid (RS4.out.on g4)
        have XA5 := hid n4
        clear o1 hb4 g4 n4 k4 kw RS RA4 RS4 C1
        go_upto_region 16 with fail
        try rw [hw5]
        clear hw5
        go_wp2_with fail
        refine (C2.out _ _ w5 RS5.out).mono ?_
        rintro _ w6 ⟨A6, c6, rfl, o6, hb6⟩
        have k6 := k5.trans (hb6.mono k5.size)
        have RB6 := hid (RO.out _ w6 A6 c6 o6)
        have RA6 := hid (RA5.out.on hb6)
        have XA6 := hid (XA5.out.below hb6 (XA5.out.lt (by simp)))
        have g6 := sg_grow w6 (.cells #[.int .i64 3, .int .i64 (v.length : Int), .slice none 0 0, .slice none 0 0, .int .i64 M2, .int .i64 0, .slice none 0 0, .slice A6 v.length c6] 27)
        have n6 : BoxL (w6.alloc (.cells #[.int .i64 3, .int .i64 (v.length : Int), .slice none 0 0, .slice none 0 0, .int .i64 M2, .int .i64 0, .slice none 0 0, .slice A6 v.length c6] 27)) w6.heap.size [.int .i64 3, .int .i64 (v.length : Int), .slice none 0 0, .slice none 0 0, .int .i64 M2, .int .i64 0, .slice none 0 0, .slice A6 v.length c6] := BoxL.new w6 [.int .i64 3, .int .i64 (v.length : Int), .slice none 0 0, .slice none 0 0, .int .i64 M2, .int .i64 0, .slice none 0 0, .slice A6 v.length c6] 27
        obtain ⟨w7, hw7⟩ : ∃ wn, w6.alloc (.cells #[.int .i64 3, .int .i64 (v.length : Int), .slice none 0 0, .slice none 0 0, .int .i64 M2, .int .i64 0, .slice none 0 0, .slice A6 v.length c6] 27) = wn := ⟨_, rfl⟩
        rw [hw7] at g6 n6
        have k7 := k6.trans (g6.mono k6.size)
        have RA7 := hid (RA6.out.on g6)
        have RB7 := hid (RB6.out.on g6)
        have XA7 := hid (XA6.out.below g6 (XA6.out.lt (by simp)))
        have XB7 := hid n6
        clear o6 hb6 g6 n6 k6 k5 RS5 RA5 RA6 RB6 XA5 XA6 C2 RO
        go_upto_region 17 with fail
        try rw [hw7]
        clear hw7
        have hz := Fz.out
        have hy := Fy.out
        have hw1 := F1.out
        have hw2 := F2.out
        have hw3 := F3.out
        have hw4 := F4.out
        have g1 := F5.out
        have g2 := F6.out
        obtain ⟨⟨q0, q1, q2, q3, q4, q5, q6, q7⟩, _⟩ := XA7.out.eight
        obtain ⟨⟨p0, p1, p2, p3, p4, p5, p6, p7⟩, _⟩ := XB7.out.eight
        go_wp2_with fail
        refine (CS.out _ _ _ _ w7 RA7.out RB7.out).mono ?_
        rintro _ w8 ⟨rfl, hb8⟩
        have k8 := k7.trans (hb8.mono k7.size)
        have XA8 := hid (XA7.out.below hb8 (XA7.out.lt (by simp)))
        have XB8 := hid (XB7.out.below hb8 (XB7.out.lt (by simp)))
        clear hb8 XA7 XB7 RA7 RB7 CS k7 q0 q1 q2 q3 q4 q5 q6 q7 p0 p1 p2 p3 p4 p5 p6 p7
        obtain ⟨⟨q0, q1, q2, q3, q4, q5, q6, q7⟩, _⟩ := XA8.out.eight
        obtain ⟨⟨p0, p1, p2, p3, p4, p5, p6, p7⟩, _⟩ := XB8.out.eight
        go_wp2_with fail
        go_ret
        exact ⟨rfl, k8⟩
  · have hc : fewS v.length [] = false ∨ (fewS v.length [] = true ∧ v.length = 0) ∨ (fewS v.length [] = true ∧ v.length ≠ 0 ∧ (v.length : Int) > 4096) := by
      cases hf : fewS v.length [] with
      | false => exact .inl rfl
      | true =>
        by_cases h1 : v.length = 0
        · exact .inr (.inl ⟨rfl, h1⟩)
        · refine .inr (.inr ⟨rfl, h1, ?_⟩)
          have : ¬ v.length ≤ 4096 := fun h => hl ⟨hf, h, h1⟩
          omega
    clear rv uv hl
    rcases hc with hf | ⟨hf, h1⟩ | ⟨hf, h1, h2⟩
    · rw [hf] at CF
      clear hf
      go_enter Try.func8, Try.ntmps8
      go_wp2_with fail
      refine (sg_live _).mono ?_
      rintro _ w1 ⟨rfl, k1⟩
      go_wp2_with fail
      refine (CF.out w1).mono ?_
      rintro _ _ ⟨rfl, rfl⟩
      clear CF
      go_wp2_with fail
      go_ret
      exact ⟨rfl, k1⟩
    · rw [hf] at CF
      have t1 : ((v.length : Int) == 0) = true := beq_iff_eq.2 (by omega)
      have t2 : (v.length == 0) = true := beq_iff_eq.2 h1
      have H1 := hid h1
      clear hf h1
      go_enter Try.func8, Try.ntmps8
      go_wp2_with fail
      refine (sg_live _).mono ?_
      rintro _ w1 ⟨rfl, k1⟩
      go_wp2_with fail
      refine (CF.out w1).mono ?_
      rintro _ _ ⟨rfl, rfl⟩
      clear CF
      go_wp2_with fail
      go_ret
      exact ⟨rfl, k1⟩
    · rw [hf] at CF
      have t1 : ((v.length : Int) == 0) = false := beq_eq_false_iff_ne.2 (by omega)
      have t2 : (v.length == 0) = false := beq_eq_false_iff_ne.2 h1
      clear hf h1
      go_enter Try.func8, Try.ntmps8
      go_wp2_with fail
      refine (sg_live _).mono ?_
      rintro _ w1 ⟨rfl, k1⟩
      go_wp2_with fail
      refine (CF.out w1).mono ?_
      rintro _ _ ⟨rfl, rfl⟩
      clear CF
      go_wp2_with fail
      go_ret
      exact ⟨rfl, k1⟩
theorem law_types : ∀ t ∈ Try.f8.params.toList, Try.prog.readableRec t = true ∧ t < Try.prog.types.size := by
  have h : (Try.f8.params.toList.all fun t => Try.prog.readableRec t && decide (t < Try.prog.types.size)) = true := by kernel_rfl
  intro t ht
  simpa using List.all_eq_true.1 h t ht
set_option maxRecDepth 100000 in
theorem lifted (os : Os) (started : os.Started) (H : Type) (enc : TypeId × Value → H) :
    ReturnsInHanded {} Try.checked os 8 .any (Rows.signScaledSpec.pre6 enc Try.prog Try.f8 Rows.signScaledRow.domain false) (Rows.signScaledSpec.post enc Try.prog Try.f8 false true false false) := by
  refine returnsInHanded_of_change (C := Try.checked) own started (by kernel_rfl) Try.func8
    (ChangeSpec.witness6 (enc := enc) (C := Try.checked) false ⟨#[], #[.slice none 0 0, .int .i64 0], []⟩ 8 (by kernel_rfl) (by kernel_rfl) (by kernel_rfl) (by kernel_rfl)) ?_
  intro W base args ds gs before hval0 hW hcnd _
  have hval : ∀ (j : Nat) t v, Try.f8.params[j]? = some t → args[j]? = some v → Value.okWide Try.prog W .any base t v := hval0
  have hW' := hW
  obtain ⟨p, q, hA0, hV, rfl, hfz, hnd⟩ := hW
  have hA : DataW.TrodAll enc Try.prog W 0 (fun _ => true) true Try.f8.params.toList args.toList ds p := hA0
  rw [Try.params8] at hA hval
  obtain ⟨v0, vs0, d0, ds0, p0, q0, hargs, rfl, rfl, h0, r0⟩ := trodAll_cons hA
  obtain ⟨v1, vs1, d1, ds1, p1, q1, rfl, rfl, rfl, h1, r1⟩ := trodAll_cons r0
  obtain ⟨rfl, rfl, rfl⟩ := trodAll_nil r1
  obtain rfl : args = #[v0, v1] := by cases args; simp_all
  obtain ⟨rfl, rfl⟩ := trodVars_none hV
  obtain ⟨Av, v, cv, rfl, rdv, iv, lcv, lmv⟩ := open_nums Try.underlying22 Try.underlying2 cells_i64' (hval 0 22 v0 rfl rfl) h0
  obtain ⟨by_, rfl, rfl, rfl, w1⟩ := open_int Try.underlying2 (hval 1 2 v1 rfl rfl) h1
  clear hA0 hval0
  refine (walk Av v cv by_ W rdv (fun x hx => I64.of_wf (iv x hx)) lcv lmv (I64.of_wf w1)).mono fun e W' ⟨he, hb⟩ => ?_
  subst he
  exact ⟨_, rfl, law_post laid (fun t ht => law_types t ht) rfl hW' ⟨rfl, rfl, rfl⟩ (by kernel_rfl) Try.underlying4 hb⟩

theorem over : Rows.signScaledRow.holds Try.pinned (OpenSpec.ofChange Rows.signScaledSpec) :=
  OpenClaim.holds_of_wide 8 Try.f8 rfl rfl rfl rfl rfl rfl rfl ⟨rfl, rfl, rfl, rfl, rfl⟩ rfl rfl rfl rfl rfl (by kernel_rfl) Try.func8 (by kernel_rfl)
    (of_decide_eq_true (by kernel_rfl)) (by unfold Func.isWrapper; first | (rw [if_pos (by decide +kernel)]; kernel_rfl) | (rw [if_neg (by decide +kernel)]; exact ⟨rfl, rfl⟩))
    (fun os started H enc _ => lifted os started H enc)

theorem proved : Rows.SignScaledSaid := over
end Go.Proofs.Ytkcckncglbjjdaa.SignScaled
