
/- The document's vec: Scale, More, Zero. -/
import Derived.Test.YtmljhckbeoalgaaVecR
namespace Go.Proofs.Ytmljhckbeoalgaa
open Go.RowKit
set_option maxHeartbeats 400000
set_option linter.unusedVariables false
theorem ref_mul (a b m : Int) (ha : I64 a) (hb : I64 b) (w : World) :
    Calls Try.prog 48 #[.int .i64 a, .int .i64 b, .int .i64 m] w fun r W' => r = .returned (.tuple #[.int .i64 (mulV a b m), .int .i64 (mulE a b m)]) ∧ w = W' := by
  by_cases h : m < 0 ∨ 30 < m
  · rw [show mulV a b m = 0 from if_pos h, show mulE a b m = 1 from if_pos h]
    exact ref_Mul_bad a b m h w
  · rw [show mulV a b m = ckV (a * b / 2 ^ m.toNat) from if_neg h, show mulE a b m = ckE (a * b / 2 ^ m.toNat) from if_neg h]
    obtain ⟨k, rfl⟩ := Int.eq_ofNat_of_zero_le (show 0 ≤ m by omega)
    exact ref_Mul a b k (by omega) ha hb w
theorem rScale_any {A : Option Addr} {c : Nat} (xs : List Int) (hx : xs.length ≤ 9223372036854775807) (ix : I64s xs) (b m : Int) (hb : I64 b) (w : World) (ra : Rd (Value.int .i64) w w.heap.size A xs) :
    Calls Try.prog 18 #[.slice A xs.length c, .int .i64 b, .int .i64 m] w (OwnInts (unV (behE m) (numS xs b m) xs.length) (unE (behE m) (numS xs b m) xs.length) w) := by
  by_cases hn : 4096 < xs.length
  · have e := un_long hn (behE m) (numS xs b m)
    rw [e.1, e.2]
    clear e ra ix
    go_enter Try.func18, Try.ntmps18
    go_wp2_with fail
    go_ret2
    exact ⟨none, 0, rfl, own_nil _ _ _, Below.refl _ _⟩
  · by_cases hq : m < 0 ∨ 30 < m
    · have e := un_bad hn (q := behE m) (by rw [show behE m = 1 from if_pos hq]; decide) (numS xs b m)
      rw [e.1, e.2, show behE m = 1 from if_pos hq]
      clear e ra ix
      by_cases h1 : m < 0
      · clear hq
        go_enter Try.func18, Try.ntmps18
        go_wp2_with fail
        go_ret2
        exact ⟨none, 0, rfl, own_nil _ _ _, Below.refl _ _⟩
      · have h2 : 30 < m := by omega
        clear hq
        go_enter Try.func18, Try.ntmps18
        go_wp2_with fail
        go_ret2
        exact ⟨none, 0, rfl, own_nil _ _ _, Below.refl _ _⟩
    · rw [show behE m = 0 from if_neg hq]
      have e := un_ok hn (numS xs b m)
      rw [e.1, e.2]
      have HA := hid ra
      have IX := hid ix
      have m1 : 0 ≤ m := by omega
      have m2 : m ≤ 30 := by omega
      clear e ra ix hq
      go_enter Try.func18, Try.ntmps18
      go_wp2_with fail
      go_loopw [8, 24] (fun o i wr => ∃ (k : Nat) (S : List Int) (A2 : Option Addr) (c2 : Nat), k ≤ xs.length ∧ i = .int .i64 k ∧ S.length = k ∧ o = .slice A2 S.length c2 ∧ S = pre (numS xs b m) k ∧ wr.ownsRow w.heap.size 2 1 (.slice A2 S.length c2) S.length (S.map (Value.int .i64)) ∧ seqE (numS xs b m) k = 0 ∧ Below w.heap.size w wr) (fun _ i _ => xs.length - (intOf i).toNat)
      case atStart => exact ⟨0, [], none, 0, by omega, rfl, rfl, rfl, rfl, own_nil _ _ _, rfl, Below.refl _ _⟩
      case round =>
        obtain ⟨k, S, A2, c2, hk, rfl, hSk, rfl, hS, hown, hs, hbr⟩ := hrel
        have HS := hid hS
        have HO := hid hown
        have HE := hid hs
        have HSK := hid hSk
        have lS : S.length ≤ 4096 := by omega
        clear hS hown hs hSk
        by_cases hlt : k < xs.length
        · obtain ⟨b1, o1, x, rfl, l1, ex, c1⟩ := (HA.out.below hbr).at_ hlt
          have CA := hid (ref_mul x b m (IX.out.at_ ex) hb)
          have en : numS xs b m k = (mulV x b m, mulE x b m) := by unfold numS; rw [getD_of ex]
          have EN := hid en
          clear ex en
          obtain ⟨z, hz⟩ : ∃ z, mulV x b m = z := ⟨_, rfl⟩
          obtain ⟨er, he⟩ : ∃ z, mulE x b m = z := ⟨_, rfl⟩
          rw [hz, he] at CA EN
          clear hz he
          go_wp2_with fail
          refine (CA.out _).mono ?_
          rintro _ _ ⟨rfl, rfl⟩
          by_cases her : er = 0
          · subst her
            have h0 := own_on HO.out ((Below.refl wr.heap.size wr).alloc (Nat.le_refl _) (.cells #[.int .i64 z] 2))
            have hr0 : Rd (Value.int .i64) (wr.alloc (.cells #[.int .i64 z] 2)) _ (some ⟨wr.heap.size, 0, none⟩) [z] := rd_one (one_cell wr (.int .i64 z) 2).1
            go_wp2_with (at_builtin; refine wpList_app (Value.int .i64) (fun _ => rfl) _ rfl _ _ 22 rfl w.heap.size 2 (.int .i64 0) 8 Try.underlying22 info_i64 rfl S _ _ rfl h0 [z] _ 1 _ rfl hr0 (by simp [maxLen]; omega) (by simp; omega) (by have := hbr.size; simp; omega) ?_)
            rintro S' A' c' w1 hS' ho hb1 _
            have HS' := hid hS'
            have HO' := hid ho
            clear hS' ho
            go_wp2_with fail
            go_roundw
            case rel =>
              refine ⟨k + 1, S', A', c', by omega, by go_num, ?_, rfl, ?_, HO'.out, ?_, (hbr.alloc hbr.size _).trans hb1⟩
              · rw [HS'.out, List.length_append, HSK.out]; rfl
              · rw [HS'.out, HS.out, pre_succ, EN.out]
              · rw [seqE_succ HE.out, EN.out]
            case measure => simp [intOf]; omega
          · have hne : (er != 0) = true := by simpa using her
            go_wp2_with fail
            go_ret2
            obtain ⟨e1, e2⟩ := seq_off HE.out hlt (by rw [EN.out]; exact her)
            rw [e1, e2, EN.out]
            exact ⟨none, 0, rfl, own_nil _ _ _, hbr⟩
        · obtain rfl : k = xs.length := by omega
          go_wp2_with fail
          go_ret2
          rw [HE.out, seqV_pre HE.out, ← HS.out]
          exact ⟨A2, c2, rfl, HO.out, hbr⟩
theorem rMore_any {A B : Option Addr} {c d : Nat} (ys xs : List Int) (hy : ys.length ≤ 9223372036854775807) (hx : xs.length ≤ 9223372036854775807) (iy : I64s ys) (ix : I64s xs) (b m : Int) (hb : I64 b) (w : World)
    (ra : Rd (Value.int .i64) w w.heap.size A xs) (rb : Rd (Value.int .i64) w w.heap.size B ys) :
    Calls Try.prog 20 #[.slice B ys.length d, .int .i64 b, .slice A xs.length c, .int .i64 m] w (OwnInts (moreV ys xs b m) (moreE ys xs b m) w) := by
  have CS := hid (rScale_any (c := c) xs hx ix b m hb w ra)
  have il : I64s (unV (behE m) (numS xs b m) xs.length) := unV_i64 fun k _ => mulV_i64 _ _ _
  have ll := unV_len (behE m) (numS xs b m) xs.length
  unfold moreV moreE
  obtain ⟨S, hS⟩ : ∃ S, unV (behE m) (numS xs b m) xs.length = S := ⟨_, rfl⟩
  obtain ⟨q, hq⟩ : ∃ S, unE (behE m) (numS xs b m) xs.length = S := ⟨_, rfl⟩
  rw [hS] at il ll CS ⊢
  rw [hq] at CS ⊢
  clear hS hq
  by_cases h0 : q = 0
  · subst h0
    rw [if_pos rfl, if_pos rfl]
    have CA := hid (fun (A' : Option Addr) (c' : Nat) (W : World) hb' => rAdd_any (A := B) (B := A') (c := d) (d := c') ys S hy (by omega) iy il W hb')
    have HB := hid rb
    clear rb ra ix iy il
    go_enter Try.func20, Try.ntmps20
    go_wp2_with fail
    refine CS.out.mono ?_
    rintro _ w1 ⟨A', c', rfl, ho, hb1⟩
    have hr := hid (own_rd ho)
    have HO := hid ho
    clear ho
    go_wp2_with fail
    refine (CA.out A' c' w1 (HB.out.on hb1) hr.out).mono ?_
    rintro _ w2 ⟨A2, c2, rfl, ho2, hb2⟩
    go_wp2_with fail
    go_ret2
    exact OwnInts.onto ⟨A2, c2, rfl, ho2, hb2⟩ hb1
  · rw [if_neg h0, if_neg h0]
    have hne : (q != 0) = true := by simpa using h0
    clear h0 ra rb ix iy il
    go_enter Try.func20, Try.ntmps20
    go_wp2_with fail
    refine CS.out.mono ?_
    rintro _ w1 ⟨A', c', rfl, ho, hb1⟩
    clear ho
    go_wp2_with fail
    go_ret2
    exact ⟨none, 0, rfl, own_nil _ _ _, hb1⟩
theorem rZero_any (n : Int) (w : World) :
    Calls Try.prog 24 #[.int .i64 n] w (OwnInts (zeroV n) (zeroE n) w) := by
  by_cases h : n < 0 ∨ 4096 < n
  · rw [show zeroE n = 1 from if_pos h, show zeroV n = [] from if_pos h]
    by_cases h1 : n < 0
    · clear h
      go_enter Try.func24, Try.ntmps24
      go_wp2_with fail
      go_ret2
      exact ⟨none, 0, rfl, own_nil _ _ _, Below.refl _ _⟩
    · have h2 : 4096 < n := by omega
      clear h
      go_enter Try.func24, Try.ntmps24
      go_wp2_with fail
      go_ret2
      exact ⟨none, 0, rfl, own_nil _ _ _, Below.refl _ _⟩
  · rw [show zeroE n = 0 from if_neg h, show zeroV n = List.replicate n.toNat 0 from if_neg h]
    obtain ⟨k, rfl⟩ := Int.eq_ofNat_of_zero_le (show 0 ≤ n by omega)
    have hmk := fun W => run_make_row' (P := Try.prog) 22 2 (.int .i64 0) 8 Try.underlying22 info_i64 rfl .i64 .i64 k (by omega) (by omega) W
    go_enter Try.func24, Try.ntmps24
    go_wp2_with fail
    go_ret2
    refine ⟨some ⟨w.heap.size, 0, none⟩, k, by simp, ?_, by go_grown⟩
    have := own_made (B := w.heap.size) (w' := w) (World.rowIs_made w (.int .i64 0) k 2) (Nat.le_refl _) (by unfold maxLen; omega)
    simpa [List.map_const'] using this
end Go.Proofs.Ytmljhckbeoalgaa
