
/- The document's vec: Size, Most, Dot, Sum, Clip. -/
import Derived.Test.YtmljhckbeoalgaaVecS
namespace Go.Proofs.Ytmljhckbeoalgaa
open Go.RowKit
set_option maxHeartbeats 400000
set_option linter.unusedVariables false
theorem rSize_any {A : Option Addr} {c : Nat} (xs : List Int) (hx : xs.length ≤ 9223372036854775807) (ix : I64s xs) (w : World) (ra : Rd (Value.int .i64) w w.heap.size A xs) :
    Calls Try.prog 31 #[.slice A xs.length c] w fun e w' => e = .returned (.tuple #[.int .i64 (sizeV xs), .int .i64 (sizeE xs)]) ∧ Below w.heap.size w w' := by
  by_cases hn : 4096 < xs.length
  · rw [show sizeE xs = 3 from if_pos hn, show sizeV xs = 0 from if_pos hn]
    clear ra ix
    go_enter Try.func31, Try.ntmps31
    go_wp2_with fail
    go_ret2
    exact ⟨rfl, Below.refl _ _⟩
  · rw [show sizeE xs = (tot (numA xs) xs.length).2 from if_neg hn, show sizeV xs = (tot (numA xs) xs.length).1 from if_neg hn]
    have HA := hid ra
    have IX := hid ix
    clear ra ix
    go_enter Try.func31, Try.ntmps31
    go_wp2_with fail
    go_loopw [4, 14] (fun s i wr => ∃ (k : Nat) (S : Int), k ≤ xs.length ∧ i = .int .i64 k ∧ s = .int .i64 S ∧ I64 S ∧ tot (numA xs) k = (S, 0) ∧ w = wr) (fun _ i _ => xs.length - (intOf i).toNat)
    case atStart => exact ⟨0, 0, by omega, rfl, rfl, by decide, rfl, rfl⟩
    case round =>
      obtain ⟨k, S, hk, rfl, rfl, hS, hs, rfl⟩ := hrel
      have HS := hid hs
      clear hs
      by_cases hlt : k < xs.length
      · obtain ⟨b1, o1, x, rfl, l1, ex, c1⟩ := HA.out.at_ hlt
        have CA := hid (ref_Abs x (IX.out.at_ ex))
        have en : numA xs k = (ckV (absI x), ckE (absI x)) := by unfold numA; rw [getD_of ex]
        have EN := hid en
        have iz := ckV_i64 (absI x)
        clear ex en
        obtain ⟨z, hz⟩ : ∃ z, ckV (absI x) = z := ⟨_, rfl⟩
        obtain ⟨er, he⟩ : ∃ z, ckE (absI x) = z := ⟨_, rfl⟩
        rw [hz, he] at CA EN
        rw [hz] at iz
        have CB := ref_Add S z hS iz
        clear hz he
        by_cases her : er = 0
        · subst her
          by_cases hin : I64 (S + z)
          · rw [ckV_in hin, ckE_in hin] at CB
            obtain ⟨T, hT⟩ : ∃ T, S + z = T := ⟨_, rfl⟩
            rw [hT] at CB hin
            have HT := hid hT
            have CB' := hid CB
            clear CB hT
            go_wp2_with fail
            refine (CA.out _).mono ?_
            rintro _ _ ⟨rfl, rfl⟩
            go_wp2_with fail
            refine (CB'.out _).mono ?_
            rintro _ _ ⟨rfl, rfl⟩
            go_wp2_with fail
            go_roundw
            case rel =>
              refine ⟨k + 1, T, by omega, by go_num, rfl, hin, ?_, by trivial⟩
              simp only [tot, HS.out, EN.out, HT.out, if_pos, ckV_in hin, ckE_in hin]
            case measure => simp [intOf]; omega
          · rw [ckV_out hin, ckE_out hin] at CB
            have CB' := hid CB
            clear CB
            go_wp2_with fail
            refine (CA.out _).mono ?_
            rintro _ _ ⟨rfl, rfl⟩
            go_wp2_with fail
            refine (CB'.out _).mono ?_
            rintro _ _ ⟨rfl, rfl⟩
            go_wp2_with fail
            go_ret2
            have e1 : tot (numA xs) (k + 1) = (0, 2) := by simp only [tot, HS.out, EN.out, if_pos, ckV_out hin, ckE_out hin]
            rw [tot_stays (k := k + 1) (by rw [e1]; decide) xs.length hlt, e1]
            exact ⟨rfl, Below.refl _ _⟩
        · have hne : (er != 0) = true := by simpa using her
          clear CB
          go_wp2_with fail
          refine (CA.out _).mono ?_
          rintro _ _ ⟨rfl, rfl⟩
          go_wp2_with fail
          go_ret2
          have e1 : tot (numA xs) (k + 1) = (0, er) := by simp only [tot, HS.out, EN.out, if_pos, if_neg her]
          rw [tot_stays (k := k + 1) (by rw [e1]; exact her) xs.length hlt, e1]
          exact ⟨rfl, Below.refl _ _⟩
      · obtain rfl : k = xs.length := by omega
        go_wp2_with fail
        go_ret2
        rw [HS.out]
        exact ⟨rfl, Below.refl _ _⟩
theorem rMost_any {A : Option Addr} {c : Nat} (xs : List Int) (hx : xs.length ≤ 9223372036854775807) (ix : I64s xs) (w : World) (ra : Rd (Value.int .i64) w w.heap.size A xs) :
    Calls Try.prog 33 #[.slice A xs.length c] w fun e w' => e = .returned (.tuple #[.int .i64 (mostV xs), .int .i64 (mostE xs)]) ∧ Below w.heap.size w w' := by
  unfold mostV mostE
  by_cases hn : 4096 < xs.length
  · have e := un_long hn 0 (numA xs)
    rw [e.1, e.2, mx_nil]
    clear ra ix e
    go_enter Try.func33, Try.ntmps33
    go_wp2_with fail
    go_ret2
    exact ⟨rfl, Below.refl _ _⟩
  · have e := un_ok hn (numA xs)
    rw [e.1, e.2]
    have HA := hid ra
    have IX := hid ix
    clear ra ix e
    go_enter Try.func33, Try.ntmps33
    go_wp2_with fail
    go_loopw [4, 14] (fun s i wr => ∃ (k : Nat) (S : Int), k ≤ xs.length ∧ i = .int .i64 k ∧ s = .int .i64 S ∧ mx (pre (numA xs) k) = S ∧ seqE (numA xs) k = 0 ∧ w = wr) (fun _ i _ => xs.length - (intOf i).toNat)
    case atStart => exact ⟨0, 0, by omega, rfl, rfl, rfl, rfl, rfl⟩
    case round =>
      obtain ⟨k, S, hk, rfl, rfl, hS, hs, rfl⟩ := hrel
      have HS := hid hs
      have HM := hid hS
      clear hs hS
      by_cases hlt : k < xs.length
      · obtain ⟨b1, o1, x, rfl, l1, ex, c1⟩ := HA.out.at_ hlt
        have CA := hid (ref_Abs x (IX.out.at_ ex))
        have en : numA xs k = (ckV (absI x), ckE (absI x)) := by unfold numA; rw [getD_of ex]
        have EN := hid en
        clear ex en
        obtain ⟨z, hz⟩ : ∃ z, ckV (absI x) = z := ⟨_, rfl⟩
        obtain ⟨er, he⟩ : ∃ z, ckE (absI x) = z := ⟨_, rfl⟩
        rw [hz, he] at CA EN
        clear hz he
        by_cases her : er = 0
        · subst her
          go_wp2_with fail
          refine (CA.out _).mono ?_
          rintro _ _ ⟨rfl, rfl⟩
          go_wp2_with fail
          go_roundw
          case rel =>
            refine ⟨k + 1, if S < z then z else S, by omega, by go_num, rfl, ?_, by rw [seqE_succ HS.out, EN.out], by trivial⟩
            have := HM.out
            unfold mx at *
            rw [pre_succ, List.foldl_append, this, EN.out]
            show max S z = _
            split <;> omega
          case measure => simp [intOf]; omega
        · have hne : (er != 0) = true := by simpa using her
          go_wp2_with fail
          refine (CA.out _).mono ?_
          rintro _ _ ⟨rfl, rfl⟩
          go_wp2_with fail
          go_ret2
          obtain ⟨e1, e2⟩ := seq_off HS.out hlt (by rw [EN.out]; exact her)
          rw [e1, e2, EN.out, mx_nil]
          exact ⟨rfl, Below.refl _ _⟩
      · obtain rfl : k = xs.length := by omega
        go_wp2_with fail
        go_ret2
        rw [HS.out, seqV_pre HS.out, HM.out]
        exact ⟨rfl, Below.refl _ _⟩
theorem rDot_any {A B : Option Addr} {c d : Nat} (xs ys : List Int) (hx : xs.length ≤ 9223372036854775807) (hy : ys.length ≤ 9223372036854775807) (ix : I64s xs) (iy : I64s ys) (m : Int) (w : World)
    (ra : Rd (Value.int .i64) w w.heap.size A xs) (rb : Rd (Value.int .i64) w w.heap.size B ys) :
    Calls Try.prog 29 #[.slice A xs.length c, .slice B ys.length d, .int .i64 m] w fun e w' => e = .returned (.tuple #[.int .i64 (dotV xs ys m), .int .i64 (dotE xs ys m)]) ∧ Below w.heap.size w w' := by
  have CM := hid (two_any A B xs.length ys.length c d hx hy)
  by_cases ht : twoE xs.length ys.length = 0
  · rw [show dotE xs ys m = if behE m = 0 then (tot (numD xs ys m) xs.length).2 else behE m from if_pos ht, show dotV xs ys m = if behE m = 0 then (tot (numD xs ys m) xs.length).1 else 0 from if_pos ht]
    obtain ⟨hn, hl⟩ := twoE_ok ht
    have HL := hid hl
    have HA := hid ra
    have HB := hid rb
    have IX := hid ix
    have IY := hid iy
    rw [ht] at CM
    clear ht hl ra rb ix iy
    by_cases hq : m < 0 ∨ 30 < m
    · rw [show behE m = 1 from if_pos hq, if_neg (by decide), if_neg (by decide)]
      by_cases h1 : m < 0
      · clear hq
        go_enter Try.func29, Try.ntmps29
        go_wp2_with fail
        refine (CM.out _).mono ?_
        rintro _ _ ⟨rfl, rfl⟩
        go_wp2_with fail
        go_ret2
        exact ⟨rfl, Below.refl _ _⟩
      · have h2 : 30 < m := by omega
        clear hq
        go_enter Try.func29, Try.ntmps29
        go_wp2_with fail
        refine (CM.out _).mono ?_
        rintro _ _ ⟨rfl, rfl⟩
        go_wp2_with fail
        go_ret2
        exact ⟨rfl, Below.refl _ _⟩
    · rw [show behE m = 0 from if_neg hq, if_pos rfl, if_pos rfl]
      have m1 : 0 ≤ m := by omega
      have m2 : m ≤ 30 := by omega
      clear hq
      go_enter Try.func29, Try.ntmps29
      go_wp2_with fail
      refine (CM.out _).mono ?_
      rintro _ _ ⟨rfl, rfl⟩
      go_wp2_with fail
      go_loopw [9, 27] (fun s i wr => ∃ (k : Nat) (S : Int), k ≤ xs.length ∧ i = .int .i64 k ∧ s = .int .i64 S ∧ I64 S ∧ tot (numD xs ys m) k = (S, 0) ∧ Below w.heap.size w wr) (fun _ i _ => xs.length - (intOf i).toNat)
      case atStart => exact ⟨0, 0, by omega, rfl, rfl, by decide, rfl, Below.refl _ _⟩
      case round =>
        obtain ⟨k, S, hk, rfl, rfl, hS, hs, hbr⟩ := hrel
        have HS := hid hs
        clear hs
        by_cases hlt : k < xs.length
        · have hlt2 : k < ys.length := by have := HL.out; omega
          obtain ⟨b1, o1, x, rfl, l1, ex, c1⟩ := (HA.out.below hbr).at_ hlt
          obtain ⟨b2, o2, y, rfl, l2, ey, c2⟩ := (HB.out.below hbr).at_ hlt2
          have CA := hid (ref_mul x y m (IX.out.at_ ex) (IY.out.at_ ey))
          have en : numD xs ys m k = (mulV x y m, mulE x y m) := by unfold numD; rw [getD_of ex, getD_of ey]
          have EN := hid en
          have iz := mulV_i64 x y m
          clear ex ey en
          obtain ⟨z, hz⟩ : ∃ z, mulV x y m = z := ⟨_, rfl⟩
          obtain ⟨er, he⟩ : ∃ z, mulE x y m = z := ⟨_, rfl⟩
          rw [hz, he] at CA EN
          rw [hz] at iz
          have CB := ref_Add S z hS iz
          clear hz he
          by_cases her : er = 0
          · subst her
            by_cases hin : I64 (S + z)
            · rw [ckV_in hin, ckE_in hin] at CB
              obtain ⟨T, hT⟩ : ∃ T, S + z = T := ⟨_, rfl⟩
              rw [hT] at CB hin
              have HT := hid hT
              have CB' := hid CB
              clear CB hT
              go_wp2_with fail
              go_quiet ((go_at_call 48; exact quietL CA.out _))
              go_wp2_with fail
              refine (CB'.out _).mono ?_
              rintro _ _ ⟨rfl, rfl⟩
              go_wp2_with fail
              go_roundw
              case rel =>
                refine ⟨k + 1, T, by omega, by go_num, rfl, hin, ?_, hbr.trans (belowN _ _ _)⟩
                simp only [tot, HS.out, EN.out, HT.out, if_pos, ckV_in hin, ckE_in hin]
              case measure => simp [intOf]; omega
            · rw [ckV_out hin, ckE_out hin] at CB
              have CB' := hid CB
              clear CB
              go_wp2_with fail
              go_quiet ((go_at_call 48; exact quietL CA.out _))
              go_wp2_with fail
              refine (CB'.out _).mono ?_
              rintro _ _ ⟨rfl, rfl⟩
              go_wp2_with fail
              go_ret2
              have e1 : tot (numD xs ys m) (k + 1) = (0, 2) := by simp only [tot, HS.out, EN.out, if_pos, ckV_out hin, ckE_out hin]
              rw [tot_stays (k := k + 1) (by rw [e1]; decide) xs.length hlt, e1]
              exact ⟨rfl, hbr.trans (belowN _ _ _)⟩
          · have hne : (er != 0) = true := by simpa using her
            clear CB
            go_wp2_with fail
            go_quiet ((go_at_call 48; exact quietL CA.out _))
            go_wp2_with fail
            go_ret2
            have e1 : tot (numD xs ys m) (k + 1) = (0, er) := by simp only [tot, HS.out, EN.out, if_pos, if_neg her]
            rw [tot_stays (k := k + 1) (by rw [e1]; exact her) xs.length hlt, e1]
            exact ⟨rfl, hbr.trans (belowN _ _ _)⟩
        · obtain rfl : k = xs.length := by omega
          go_wp2_with fail
          go_ret2
          rw [HS.out]
          exact ⟨rfl, hbr⟩
  · rw [show dotE xs ys m = twoE xs.length ys.length from if_neg ht, show dotV xs ys m = 0 from if_neg ht]
    obtain ⟨t, hte⟩ : ∃ t, twoE xs.length ys.length = t := ⟨_, rfl⟩
    rw [hte] at ht CM ⊢
    have hne : (t != 0) = true := by simpa using ht
    clear ix iy ra rb ht hte
    go_enter Try.func29, Try.ntmps29
    go_wp2_with fail
    refine (CM.out _).mono ?_
    rintro _ _ ⟨rfl, rfl⟩
    go_wp2_with fail
    go_ret2
    exact ⟨rfl, Below.refl _ _⟩
theorem clip3 (x m : Int) (h : 0 ≤ m) : (x < -m ∧ clipV x m = -m) ∨ (m < x ∧ -m ≤ x ∧ clipV x m = m) ∨ (-m ≤ x ∧ x ≤ m ∧ clipV x m = x) := by
  unfold clipV
  by_cases h1 : x < -m
  · left; refine ⟨h1, ?_⟩; rw [if_neg (by omega), if_pos h1]
  · by_cases h2 : m < x
    · right; left; refine ⟨h2, by omega, ?_⟩; rw [if_neg (by omega), if_neg h1, if_pos h2]
    · right; right; refine ⟨by omega, by omega, ?_⟩; rw [if_neg (by omega), if_neg h1, if_neg h2]
theorem rClip_any {A : Option Addr} {c : Nat} (xs : List Int) (hx : xs.length ≤ 9223372036854775807) (ix : I64s xs) (m : Int) (hm : I64 m) (w : World) (ra : Rd (Value.int .i64) w w.heap.size A xs) :
    Calls Try.prog 22 #[.slice A xs.length c, .int .i64 m] w (OwnInts (unV (clipE m) (numC xs m) xs.length) (unE (clipE m) (numC xs m) xs.length) w) := by
  by_cases hn : 4096 < xs.length
  · have e := un_long hn (clipE m) (numC xs m)
    rw [e.1, e.2]
    clear e ra ix
    go_enter Try.func22, Try.ntmps22
    go_wp2_with fail
    go_ret2
    exact ⟨none, 0, rfl, own_nil _ _ _, Below.refl _ _⟩
  · by_cases hq : m < 0
    · have e := un_bad hn (q := clipE m) (by rw [show clipE m = 1 from if_pos hq]; decide) (numC xs m)
      rw [e.1, e.2, show clipE m = 1 from if_pos hq]
      clear e ra ix
      go_enter Try.func22, Try.ntmps22
      go_wp2_with fail
      go_ret2
      exact ⟨none, 0, rfl, own_nil _ _ _, Below.refl _ _⟩
    · by_cases hm0 : m = 0
      · subst hm0
        rw [show clipE 0 = 0 from rfl]
        have e := un_ok hn (numC xs 0)
        rw [e.1, e.2]
        have HA := hid ra
        have IX := hid ix
        have m1 : (0 : Int) ≤ 0 := by omega
        have m2 := hm.2
        clear e ra ix
        go_enter Try.func22, Try.ntmps22
        go_wp2_with fail
        go_loopw [6, 16] (fun o i wr => ∃ (k : Nat) (S : List Int) (A2 : Option Addr) (c2 : Nat), k ≤ xs.length ∧ i = .int .i64 k ∧ S.length = k ∧ o = .slice A2 S.length c2 ∧ S = pre (numC xs 0) k ∧ wr.ownsRow w.heap.size 2 1 (.slice A2 S.length c2) S.length (S.map (Value.int .i64)) ∧ seqE (numC xs 0) k = 0 ∧ Below w.heap.size w wr) (fun _ i _ => xs.length - (intOf i).toNat)
        case atStart => exact ⟨0, [], none, 0, by omega, rfl, rfl, rfl, rfl, own_nil _ _ _, rfl, Below.refl _ _⟩
        case round =>
          obtain ⟨k, S, A2, c2, hk, rfl, hSk, rfl, hS, hown, hs, hbr⟩ := hrel
          have HS := hid hS
          have HO := hid hown
          have HE := hid hs
          have HSK := hid hSk
          have lS : S.length ≤ 4096 := by omega
          clear hS hown hs hSk
          by_cases hlt : k < xs.length
          · obtain ⟨b1, o1, x, rfl, l1, ex, c1⟩ := (HA.out.below hbr).at_ hlt
            have en : numC xs 0 k = (clipV x 0, 0) := by unfold numC; rw [getD_of ex, show clipE 0 = 0 from rfl]
            have EN := hid en
            obtain ⟨x1, x2⟩ := IX.out.at_ ex
            have hv0 := hid (fun (m1 : (0 : Int) ≤ 0) => clip3 x 0 m1)
            clear ex en
            have hv : clipV x 0 = 0 := by rcases hv0.out m1 with ⟨_, h⟩ | ⟨_, _, h⟩ | ⟨_, _, h⟩ <;> omega
            rcases Int.lt_trichotomy x 0 with hx1 | hx1 | hx1
            · skip
              have h0 := own_on HO.out ((Below.refl wr.heap.size wr).alloc (Nat.le_refl _) (.cells #[.int .i64 (0)] 2))
              have hr0 : Rd (Value.int .i64) (wr.alloc (.cells #[.int .i64 (0)] 2)) _ (some ⟨wr.heap.size, 0, none⟩) [0] := rd_one (one_cell wr (.int .i64 (0)) 2).1
              have EN' := hid (show (numC xs 0 k).1 = 0 ∧ (numC xs 0 k).2 = 0 by rw [EN.out]; exact ⟨hv, rfl⟩)
              clear hv
              go_wp2_with (at_builtin; refine wpList_app (Value.int .i64) (fun _ => rfl) _ rfl _ _ 22 rfl w.heap.size 2 (.int .i64 0) 8 Try.underlying22 info_i64 rfl S _ _ rfl h0 [0] _ 1 _ rfl hr0 (by simp [maxLen]; omega) (by simp; omega) (by have := hbr.size; simp; omega) ?_)
              rintro S' A' c' w1 hS' ho hb1 _
              have HS' := hid hS'
              have HO' := hid ho
              clear hS' ho
              go_wp2_with fail
              go_roundw
              case rel =>
                refine ⟨k + 1, S', A', c', by omega, by go_num, ?_, rfl, ?_, HO'.out, ?_, (hbr.alloc hbr.size _).trans hb1⟩
                · rw [HS'.out, List.length_append, HSK.out]; rfl
                · rw [HS'.out, HS.out, pre_succ, EN'.out.1]
                · rw [seqE_succ HE.out, EN'.out.2]
              case measure => simp [intOf]; omega
            · skip
              subst hx1
              have h0 := own_on HO.out ((Below.refl wr.heap.size wr).alloc (Nat.le_refl _) (.cells #[.int .i64 (0)] 2))
              have hr0 : Rd (Value.int .i64) (wr.alloc (.cells #[.int .i64 (0)] 2)) _ (some ⟨wr.heap.size, 0, none⟩) [0] := rd_one (one_cell wr (.int .i64 (0)) 2).1
              have EN' := hid (show (numC xs 0 k).1 = 0 ∧ (numC xs 0 k).2 = 0 by rw [EN.out]; exact ⟨hv, rfl⟩)
              clear hv
              go_wp2_with (at_builtin; refine wpList_app (Value.int .i64) (fun _ => rfl) _ rfl _ _ 22 rfl w.heap.size 2 (.int .i64 0) 8 Try.underlying22 info_i64 rfl S _ _ rfl h0 [0] _ 1 _ rfl hr0 (by simp [maxLen]; omega) (by simp; omega) (by have := hbr.size; simp; omega) ?_)
              rintro S' A' c' w1 hS' ho hb1 _
              have HS' := hid hS'
              have HO' := hid ho
              clear hS' ho
              go_wp2_with fail
              go_roundw
              case rel =>
                refine ⟨k + 1, S', A', c', by omega, by go_num, ?_, rfl, ?_, HO'.out, ?_, (hbr.alloc hbr.size _).trans hb1⟩
                · rw [HS'.out, List.length_append, HSK.out]; rfl
                · rw [HS'.out, HS.out, pre_succ, EN'.out.1]
                · rw [seqE_succ HE.out, EN'.out.2]
              case measure => simp [intOf]; omega
            · skip
              have h0 := own_on HO.out ((Below.refl wr.heap.size wr).alloc (Nat.le_refl _) (.cells #[.int .i64 (0)] 2))
              have hr0 : Rd (Value.int .i64) (wr.alloc (.cells #[.int .i64 (0)] 2)) _ (some ⟨wr.heap.size, 0, none⟩) [0] := rd_one (one_cell wr (.int .i64 (0)) 2).1
              have EN' := hid (show (numC xs 0 k).1 = 0 ∧ (numC xs 0 k).2 = 0 by rw [EN.out]; exact ⟨hv, rfl⟩)
              clear hv
              go_wp2_with (at_builtin; refine wpList_app (Value.int .i64) (fun _ => rfl) _ rfl _ _ 22 rfl w.heap.size 2 (.int .i64 0) 8 Try.underlying22 info_i64 rfl S _ _ rfl h0 [0] _ 1 _ rfl hr0 (by simp [maxLen]; omega) (by simp; omega) (by have := hbr.size; simp; omega) ?_)
              rintro S' A' c' w1 hS' ho hb1 _
              have HS' := hid hS'
              have HO' := hid ho
              clear hS' ho
              go_wp2_with fail
              go_roundw
              case rel =>
                refine ⟨k + 1, S', A', c', by omega, by go_num, ?_, rfl, ?_, HO'.out, ?_, (hbr.alloc hbr.size _).trans hb1⟩
                · rw [HS'.out, List.length_append, HSK.out]; rfl
                · rw [HS'.out, HS.out, pre_succ, EN'.out.1]
                · rw [seqE_succ HE.out, EN'.out.2]
              case measure => simp [intOf]; omega
          · obtain rfl : k = xs.length := by omega
            go_wp2_with fail
            go_ret2
            rw [HE.out, seqV_pre HE.out, ← HS.out]
            exact ⟨A2, c2, rfl, HO.out, hbr⟩

      · rw [show clipE m = 0 from if_neg hq]
        have e := un_ok hn (numC xs m)
        rw [e.1, e.2]
        have HA := hid ra
        have IX := hid ix
        have m1 : 0 ≤ m := by omega
        have m2 := hm.2
        clear e ra ix hq
        go_enter Try.func22, Try.ntmps22
        go_wp2_with fail
        go_loopw [6, 16] (fun o i wr => ∃ (k : Nat) (S : List Int) (A2 : Option Addr) (c2 : Nat), k ≤ xs.length ∧ i = .int .i64 k ∧ S.length = k ∧ o = .slice A2 S.length c2 ∧ S = pre (numC xs m) k ∧ wr.ownsRow w.heap.size 2 1 (.slice A2 S.length c2) S.length (S.map (Value.int .i64)) ∧ seqE (numC xs m) k = 0 ∧ Below w.heap.size w wr) (fun _ i _ => xs.length - (intOf i).toNat)
        case atStart => exact ⟨0, [], none, 0, by omega, rfl, rfl, rfl, rfl, own_nil _ _ _, rfl, Below.refl _ _⟩
        case round =>
          obtain ⟨k, S, A2, c2, hk, rfl, hSk, rfl, hS, hown, hs, hbr⟩ := hrel
          have HS := hid hS
          have HO := hid hown
          have HE := hid hs
          have HSK := hid hSk
          have lS : S.length ≤ 4096 := by omega
          clear hS hown hs hSk
          by_cases hlt : k < xs.length
          · obtain ⟨b1, o1, x, rfl, l1, ex, c1⟩ := (HA.out.below hbr).at_ hlt
            have en : numC xs m k = (clipV x m, 0) := by unfold numC; rw [getD_of ex, show clipE m = 0 from if_neg (by omega)]
            have EN := hid en
            obtain ⟨x1, x2⟩ := IX.out.at_ ex
            have hv0 := hid (fun (m1 : 0 ≤ m) => clip3 x m m1)
            clear ex en
            have hm1 : 0 < m := by omega
            by_cases hx1 : x < -m
            · have hv : clipV x m = -m := by rcases hv0.out m1 with ⟨_, h⟩ | ⟨_, _, h⟩ | ⟨_, _, h⟩ <;> omega
              have h0 := own_on HO.out ((Below.refl wr.heap.size wr).alloc (Nat.le_refl _) (.cells #[.int .i64 (-m)] 2))
              have hr0 : Rd (Value.int .i64) (wr.alloc (.cells #[.int .i64 (-m)] 2)) _ (some ⟨wr.heap.size, 0, none⟩) [-m] := rd_one (one_cell wr (.int .i64 (-m)) 2).1
              have EN' := hid (show (numC xs m k).1 = -m ∧ (numC xs m k).2 = 0 by rw [EN.out]; exact ⟨hv, rfl⟩)
              clear hv
              go_wp2_with (at_builtin; refine wpList_app (Value.int .i64) (fun _ => rfl) _ rfl _ _ 22 rfl w.heap.size 2 (.int .i64 0) 8 Try.underlying22 info_i64 rfl S _ _ rfl h0 [-m] _ 1 _ rfl hr0 (by simp [maxLen]; omega) (by simp; omega) (by have := hbr.size; simp; omega) ?_)
              rintro S' A' c' w1 hS' ho hb1 _
              have HS' := hid hS'
              have HO' := hid ho
              clear hS' ho
              go_wp2_with fail
              go_roundw
              case rel =>
                refine ⟨k + 1, S', A', c', by omega, by go_num, ?_, rfl, ?_, HO'.out, ?_, (hbr.alloc hbr.size _).trans hb1⟩
                · rw [HS'.out, List.length_append, HSK.out]; rfl
                · rw [HS'.out, HS.out, pre_succ, EN'.out.1]
                · rw [seqE_succ HE.out, EN'.out.2]
              case measure => simp [intOf]; omega
            · by_cases hx2 : x = -m
              · have hv : clipV x m = -m := by rcases hv0.out m1 with ⟨_, h⟩ | ⟨_, _, h⟩ | ⟨_, _, h⟩ <;> omega
                subst hx2
                have h0 := own_on HO.out ((Below.refl wr.heap.size wr).alloc (Nat.le_refl _) (.cells #[.int .i64 (-m)] 2))
                have hr0 : Rd (Value.int .i64) (wr.alloc (.cells #[.int .i64 (-m)] 2)) _ (some ⟨wr.heap.size, 0, none⟩) [-m] := rd_one (one_cell wr (.int .i64 (-m)) 2).1
                have EN' := hid (show (numC xs m k).1 = -m ∧ (numC xs m k).2 = 0 by rw [EN.out]; exact ⟨hv, rfl⟩)
                clear hv
                go_wp2_with (at_builtin; refine wpList_app (Value.int .i64) (fun _ => rfl) _ rfl _ _ 22 rfl w.heap.size 2 (.int .i64 0) 8 Try.underlying22 info_i64 rfl S _ _ rfl h0 [-m] _ 1 _ rfl hr0 (by simp [maxLen]; omega) (by simp; omega) (by have := hbr.size; simp; omega) ?_)
                rintro S' A' c' w1 hS' ho hb1 _
                have HS' := hid hS'
                have HO' := hid ho
                clear hS' ho
                go_wp2_with fail
                go_roundw
                case rel =>
                  refine ⟨k + 1, S', A', c', by omega, by go_num, ?_, rfl, ?_, HO'.out, ?_, (hbr.alloc hbr.size _).trans hb1⟩
                  · rw [HS'.out, List.length_append, HSK.out]; rfl
                  · rw [HS'.out, HS.out, pre_succ, EN'.out.1]
                  · rw [seqE_succ HE.out, EN'.out.2]
                case measure => simp [intOf]; omega
              · by_cases hx3 : x < m
                · have hv : clipV x m = x := by rcases hv0.out m1 with ⟨_, h⟩ | ⟨_, _, h⟩ | ⟨_, _, h⟩ <;> omega
                  have hx4 : -m < x := by omega
                  have h0 := own_on HO.out ((Below.refl wr.heap.size wr).alloc (Nat.le_refl _) (.cells #[.int .i64 (x)] 2))
                  have hr0 : Rd (Value.int .i64) (wr.alloc (.cells #[.int .i64 (x)] 2)) _ (some ⟨wr.heap.size, 0, none⟩) [x] := rd_one (one_cell wr (.int .i64 (x)) 2).1
                  have EN' := hid (show (numC xs m k).1 = x ∧ (numC xs m k).2 = 0 by rw [EN.out]; exact ⟨hv, rfl⟩)
                  clear hv
                  go_wp2_with (at_builtin; refine wpList_app (Value.int .i64) (fun _ => rfl) _ rfl _ _ 22 rfl w.heap.size 2 (.int .i64 0) 8 Try.underlying22 info_i64 rfl S _ _ rfl h0 [x] _ 1 _ rfl hr0 (by simp [maxLen]; omega) (by simp; omega) (by have := hbr.size; simp; omega) ?_)
                  rintro S' A' c' w1 hS' ho hb1 _
                  have HS' := hid hS'
                  have HO' := hid ho
                  clear hS' ho
                  go_wp2_with fail
                  go_roundw
                  case rel =>
                    refine ⟨k + 1, S', A', c', by omega, by go_num, ?_, rfl, ?_, HO'.out, ?_, (hbr.alloc hbr.size _).trans hb1⟩
                    · rw [HS'.out, List.length_append, HSK.out]; rfl
                    · rw [HS'.out, HS.out, pre_succ, EN'.out.1]
                    · rw [seqE_succ HE.out, EN'.out.2]
                  case measure => simp [intOf]; omega
                · have hx5 : -m < m := by omega
                  by_cases hx4 : m = x
                  · have hv : clipV x m = m := by rcases hv0.out m1 with ⟨_, h⟩ | ⟨_, _, h⟩ | ⟨_, _, h⟩ <;> omega
                    subst hx4
                    have h0 := own_on HO.out ((Below.refl wr.heap.size wr).alloc (Nat.le_refl _) (.cells #[.int .i64 (m)] 2))
                    have hr0 : Rd (Value.int .i64) (wr.alloc (.cells #[.int .i64 (m)] 2)) _ (some ⟨wr.heap.size, 0, none⟩) [m] := rd_one (one_cell wr (.int .i64 (m)) 2).1
                    have EN' := hid (show (numC xs m k).1 = m ∧ (numC xs m k).2 = 0 by rw [EN.out]; exact ⟨hv, rfl⟩)
                    clear hv
                    go_wp2_with (at_builtin; refine wpList_app (Value.int .i64) (fun _ => rfl) _ rfl _ _ 22 rfl w.heap.size 2 (.int .i64 0) 8 Try.underlying22 info_i64 rfl S _ _ rfl h0 [m] _ 1 _ rfl hr0 (by simp [maxLen]; omega) (by simp; omega) (by have := hbr.size; simp; omega) ?_)
                    rintro S' A' c' w1 hS' ho hb1 _
                    have HS' := hid hS'
                    have HO' := hid ho
                    clear hS' ho
                    go_wp2_with fail
                    go_roundw
                    case rel =>
                      refine ⟨k + 1, S', A', c', by omega, by go_num, ?_, rfl, ?_, HO'.out, ?_, (hbr.alloc hbr.size _).trans hb1⟩
                      · rw [HS'.out, List.length_append, HSK.out]; rfl
                      · rw [HS'.out, HS.out, pre_succ, EN'.out.1]
                      · rw [seqE_succ HE.out, EN'.out.2]
                    case measure => simp [intOf]; omega
                  · have hx6 : m < x := by omega
                    have hv : clipV x m = m := by rcases hv0.out m1 with ⟨_, h⟩ | ⟨_, _, h⟩ | ⟨_, _, h⟩ <;> omega
                    have h0 := own_on HO.out ((Below.refl wr.heap.size wr).alloc (Nat.le_refl _) (.cells #[.int .i64 (m)] 2))
                    have hr0 : Rd (Value.int .i64) (wr.alloc (.cells #[.int .i64 (m)] 2)) _ (some ⟨wr.heap.size, 0, none⟩) [m] := rd_one (one_cell wr (.int .i64 (m)) 2).1
                    have EN' := hid (show (numC xs m k).1 = m ∧ (numC xs m k).2 = 0 by rw [EN.out]; exact ⟨hv, rfl⟩)
                    clear hv
                    go_wp2_with (at_builtin; refine wpList_app (Value.int .i64) (fun _ => rfl) _ rfl _ _ 22 rfl w.heap.size 2 (.int .i64 0) 8 Try.underlying22 info_i64 rfl S _ _ rfl h0 [m] _ 1 _ rfl hr0 (by simp [maxLen]; omega) (by simp; omega) (by have := hbr.size; simp; omega) ?_)
                    rintro S' A' c' w1 hS' ho hb1 _
                    have HS' := hid hS'
                    have HO' := hid ho
                    clear hS' ho
                    go_wp2_with fail
                    go_roundw
                    case rel =>
                      refine ⟨k + 1, S', A', c', by omega, by go_num, ?_, rfl, ?_, HO'.out, ?_, (hbr.alloc hbr.size _).trans hb1⟩
                      · rw [HS'.out, List.length_append, HSK.out]; rfl
                      · rw [HS'.out, HS.out, pre_succ, EN'.out.1]
                      · rw [seqE_succ HE.out, EN'.out.2]
                    case measure => simp [intOf]; omega
          · obtain rfl : k = xs.length := by omega
            go_wp2_with fail
            go_ret2
            rw [HE.out, seqV_pre HE.out, ← HS.out]
            exact ⟨A2, c2, rfl, HO.out, hbr⟩
end Go.Proofs.Ytmljhckbeoalgaa
