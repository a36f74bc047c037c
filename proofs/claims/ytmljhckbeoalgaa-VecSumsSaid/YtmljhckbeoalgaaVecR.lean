
/- The document's vec, each function by its contract. -/
import Derived.Test.YtmljhckbeoalgaaVec4
import Derived.Test.YtmljhckbeoalgaaRefB
namespace Go.Proofs.Ytmljhckbeoalgaa
open Go.RowKit
set_option maxHeartbeats 400000
set_option linter.unusedVariables false
theorem rCheck_any (A : Option Addr) (n c : Nat) (hn : n ≤ 9223372036854775807) (w : World) :
    Calls Try.prog 27 #[.slice A n c] w fun e w' => e = .returned (.int .i64 (oneE n)) ∧ w = w' := by
  by_cases h : 4096 < n
  · have e1 : oneE n = 3 := if_pos h
    rw [e1]
    clear e1
    go_enter Try.func27, Try.ntmps27
    go_wp2
    go_ret
    exact ⟨rfl, rfl⟩
  · have e1 : oneE n = 0 := if_neg h
    rw [e1]
    clear e1
    go_enter Try.func27, Try.ntmps27
    go_wp2
    go_ret
    exact ⟨rfl, rfl⟩
theorem two_any (A B : Option Addr) (n m c d : Nat) (hn : n ≤ 9223372036854775807) (hm : m ≤ 9223372036854775807) (w : World) :
    Calls Try.prog 40 #[.slice A n c, .slice B m d] w fun e w' => e = .returned (.int .i64 (twoE n m)) ∧ w = w' := by
  by_cases h1 : 4096 < n
  · have e1 : twoE n m = 3 := if_pos (Or.inl h1)
    rw [e1]
    clear e1
    go_enter Try.func40, Try.ntmps40
    go_wp2
    go_ret
    exact ⟨rfl, rfl⟩
  · by_cases h2 : 4096 < m
    · have e1 : twoE n m = 3 := if_pos (Or.inr h2)
      rw [e1]
      clear e1
      go_enter Try.func40, Try.ntmps40
      go_wp2
      go_ret
      exact ⟨rfl, rfl⟩
    · by_cases h3 : n = m
      · subst h3
        have e1 : twoE n n = 0 := by unfold twoE; rw [if_neg (by omega), if_pos rfl]
        rw [e1]
        clear e1
        go_enter Try.func40, Try.ntmps40
        go_wp2
        go_ret
        exact ⟨rfl, rfl⟩
      · have e1 : twoE n m = 4 := by unfold twoE; rw [if_neg (by omega), if_neg h3]
        rw [e1]
        have h4 : ((n : Int) != (m : Int)) = true := by simp; omega
        have h5 : (n != m) = true := by simp; omega
        clear e1
        go_enter Try.func40, Try.ntmps40
        go_wp2
        go_ret
        exact ⟨rfl, rfl⟩
theorem rSame_any {A B : Option Addr} {c d : Nat} (xs ys : List Int) (hx : xs.length ≤ 9223372036854775807) (hy : ys.length ≤ 9223372036854775807) (w : World)
    (ra : Rd (Value.int .i64) w w.heap.size A xs) (rb : Rd (Value.int .i64) w w.heap.size B ys) :
    Calls Try.prog 14 #[.slice A xs.length c, .slice B ys.length d] w fun e w' => e = .returned (.bool (eqB xs ys)) ∧ Below w.heap.size w w' := by
  by_cases hl : xs.length = ys.length
  · have HA := hid ra
    have HB := hid rb
    clear ra rb
    have h1 : ((xs.length : Int) != (ys.length : Int)) = false := by simp; omega
    have h2 : (xs.length != ys.length) = false := by simp; omega
    have HL := hid hl
    clear hl
    go_enter Try.func14, Try.ntmps14
    go_wp2_with fail
    clear h1 h2
    go_loopw [13] (fun i wr => ∃ k : Nat, k ≤ xs.length ∧ i = .int .i64 k ∧ xs.take k = ys.take k ∧ Below w.heap.size w wr) (fun i _ => xs.length - (intOf i).toNat)
    case atStart => exact ⟨0, by omega, rfl, rfl, Below.refl _ _⟩
    case round =>
      obtain ⟨k, hk, rfl, ht, hb⟩ := hrel
      have HT := hid ht
      clear ht
      by_cases hlt : k < xs.length
      · have hlt2 : k < ys.length := by have := HL.out; omega
        obtain ⟨b1, o1, x, rfl, l1, ex, c1⟩ := (HA.out.below hb).at_ hlt
        obtain ⟨b2, o2, y, rfl, l2, ey, c2⟩ := (HB.out.below hb).at_ hlt2
        have EX := hid ex
        have EY := hid ey
        clear ex ey
        by_cases e : x = y
        · have e' : (x != y) = false := by simpa using e
          have E := hid e
          clear e
          go_wp2_with fail
          go_quiet (fail)
          go_wp2_with fail
          go_roundw
          case rel => exact ⟨k + 1, by omega, by go_num, take_step HT.out EX.out EY.out E.out, hb.trans (belowN _ _ _)⟩
          case measure => simp [intOf]; omega
        · have e' : (x != y) = true := by simpa using e
          go_wp2_with fail
          go_quiet (fail)
          go_wp2_with fail
          go_ret
          rw [eqB_no EX.out EY.out e]
          exact ⟨rfl, hb.trans (belowN _ _ _)⟩
      · have hke : k = xs.length := by omega
        have HK := hid hke
        clear hke
        go_wp2_with fail
        go_ret
        rw [eqB_yes HT.out HK.out HL.out]
        exact ⟨rfl, hb⟩
  · rw [eqB_len hl]
    have h1 : ((xs.length : Int) != (ys.length : Int)) = true := by simp; omega
    have h2 : (xs.length != ys.length) = true := by simp; omega
    go_enter Try.func14, Try.ntmps14
    go_wp2_with fail
    go_ret
    exact ⟨rfl, Below.refl _ _⟩
/-- The first k numbers. -/
def pre (num : Nat → Int × Int) (k : Nat) : List Int := (List.range k).map fun j => (num j).1
theorem pre_succ (num : Nat → Int × Int) (k : Nat) : pre num (k + 1) = pre num k ++ [(num k).1] := by
  unfold pre; rw [List.range_succ, List.map_append]; rfl
theorem pre_len (num : Nat → Int × Int) (k : Nat) : (pre num k).length = k := by unfold pre; simp
theorem seqV_pre {num : Nat → Int × Int} {n : Nat} (h : seqE num n = 0) : seqV num n = pre num n := if_pos h
theorem seqE_succ {num : Nat → Int × Int} {k : Nat} (h : seqE num k = 0) : seqE num (k + 1) = (num k).2 := by
  show (if seqE num k = 0 then (num k).2 else seqE num k) = _
  rw [if_pos h]
theorem seq_off {num : Nat → Int × Int} {k n : Nat} (h : seqE num k = 0) (hk : k < n) (he : (num k).2 ≠ 0) : seqE num n = (num k).2 ∧ seqV num n = [] := by
  have e1 := seqE_succ h
  have e2 : seqE num n = (num k).2 := by rw [seqE_stays (k := k + 1) (by rw [e1]; exact he) n hk, e1]
  refine ⟨e2, ?_⟩
  unfold seqV
  rw [if_neg (by rw [e2]; exact he)]
theorem rAdd_any {A B : Option Addr} {c d : Nat} (xs ys : List Int) (hx : xs.length ≤ 9223372036854775807) (hy : ys.length ≤ 9223372036854775807) (ix : I64s xs) (iy : I64s ys) (w : World)
    (ra : Rd (Value.int .i64) w w.heap.size A xs) (rb : Rd (Value.int .i64) w w.heap.size B ys) :
    Calls Try.prog 13 #[.slice A xs.length c, .slice B ys.length d] w (OwnInts (opV (· + ·) xs ys) (opE (· + ·) xs ys) w) := by
  have CM := hid (two_any A B xs.length ys.length c d hx hy)
  by_cases ht : twoE xs.length ys.length = 0
  · have e1 : opE (· + ·) xs ys = seqE (num2 (· + ·) xs ys) xs.length := if_pos ht
    have e2 : opV (· + ·) xs ys = seqV (num2 (· + ·) xs ys) xs.length := if_pos ht
    rw [e1, e2]
    obtain ⟨hn, hl⟩ := twoE_ok ht
    have HL := hid hl
    have HA := hid ra
    have HB := hid rb
    have IX := hid ix
    have IY := hid iy
    rw [ht] at CM
    clear e1 e2 ht hl ra rb ix iy
    go_enter Try.func13, Try.ntmps13
    go_wp2_with fail
    refine (CM.out _).mono ?_
    rintro _ _ ⟨rfl, rfl⟩
    go_wp2_with fail
    go_loopw [7, 19] (fun o i wr => ∃ (k : Nat) (S : List Int) (A2 : Option Addr) (c2 : Nat), k ≤ xs.length ∧ i = .int .i64 k ∧ S.length = k ∧ o = .slice A2 S.length c2 ∧ S = pre (num2 (· + ·) xs ys) k ∧ wr.ownsRow w.heap.size 2 1 (.slice A2 S.length c2) S.length (S.map (Value.int .i64)) ∧ seqE (num2 (· + ·) xs ys) k = 0 ∧ Below w.heap.size w wr) (fun _ i _ => xs.length - (intOf i).toNat)
    case atStart => exact ⟨0, [], none, 0, by omega, rfl, rfl, rfl, rfl, own_nil _ _ _, rfl, Below.refl _ _⟩
    case round =>
      obtain ⟨k, S, A2, c2, hk, rfl, hSk, rfl, hS, hown, hs, hb⟩ := hrel
      have HS := hid hS
      have HO := hid hown
      have HE := hid hs
      have HSK := hid hSk
      have lS : S.length ≤ 4096 := by omega
      clear hS hown hs hSk
      by_cases hlt : k < xs.length
      · have hlt2 : k < ys.length := by have := HL.out; omega
        obtain ⟨b1, o1, x, rfl, l1, ex, c1⟩ := (HA.out.below hb).at_ hlt
        obtain ⟨b2, o2, y, rfl, l2, ey, c2⟩ := (HB.out.below hb).at_ hlt2
        have CA := hid (ref_Add x y (IX.out.at_ ex) (IY.out.at_ ey))
        have en : num2 (· + ·) xs ys k = (ckV (x + y), ckE (x + y)) := by unfold num2; rw [getD_of ex, getD_of ey]
        have EN := hid en
        clear ex ey en
        obtain ⟨z, hz⟩ : ∃ z, ckV (x + y) = z := ⟨_, rfl⟩
        obtain ⟨er, he⟩ : ∃ z, ckE (x + y) = z := ⟨_, rfl⟩
        rw [hz, he] at CA EN
        clear hz he
        go_wp2_with fail
        go_quiet ((go_at_call 41; exact quietL CA.out _))
        have hbn := hb.trans (belowN w.heap.size wr nq)
        by_cases her : er = 0
        · subst her
          have h0 := own_on HO.out ((belowN wr.heap.size wr nq).alloc (Nat.le_refl _) (.cells #[.int .i64 z] 2))
          have hr0 : Rd (Value.int .i64) ((wr.drewN nq).alloc (.cells #[.int .i64 z] 2)) _ (some ⟨wr.heap.size, 0, none⟩) [z] := rd_one (one_cell (wr.drewN nq) (.int .i64 z) 2).1
          go_wp2_with (at_builtin; refine wpList_app (Value.int .i64) (fun _ => rfl) _ rfl _ _ 22 rfl w.heap.size 2 (.int .i64 0) 8 Try.underlying22 info_i64 rfl S _ _ rfl h0 [z] _ 1 _ rfl hr0 (by simp [maxLen]; omega) (by simp; omega) (by have := hb.size; simp; omega) ?_)
          rintro S' A' c' w1 hS' ho hb1 _
          have HS' := hid hS'
          have HO' := hid ho
          clear hS' ho
          go_wp2_with fail
          go_roundw
          case rel =>
            refine ⟨k + 1, S', A', c', by omega, by go_num, ?_, rfl, ?_, HO'.out, ?_, (hbn.alloc hb.size _).trans hb1⟩
            · rw [HS'.out, List.length_append, HSK.out]; rfl
            · rw [HS'.out, HS.out, pre_succ, EN.out]
            · rw [seqE_succ HE.out, EN.out]
          case measure => simp [intOf]; omega
        · have hne : (er != 0) = true := by simpa using her
          go_wp2_with fail
          go_ret2
          obtain ⟨e1, e2⟩ := seq_off HE.out hlt (by rw [EN.out]; exact her)
          rw [e1, e2, EN.out]
          exact ⟨none, 0, rfl, own_nil _ _ _, hbn⟩
      · obtain rfl : k = xs.length := by omega
        go_wp2_with fail
        go_ret2
        rw [HE.out, seqV_pre HE.out, ← HS.out]
        exact ⟨A2, c2, rfl, HO.out, hb⟩
  · have e1 : opE (· + ·) xs ys = twoE xs.length ys.length := if_neg ht
    have e2 : opV (· + ·) xs ys = [] := if_neg ht
    rw [e1, e2]
    clear e1 e2
    obtain ⟨t, hte⟩ : ∃ t, twoE xs.length ys.length = t := ⟨_, rfl⟩
    rw [hte] at ht CM ⊢
    have hne : (t != 0) = true := by simpa using ht
    clear ra rb ix iy hte ht
    go_enter Try.func13, Try.ntmps13
    go_wp2_with fail
    refine (CM.out _).mono ?_
    rintro _ _ ⟨rfl, rfl⟩
    go_wp2_with fail
    go_ret2
    exact ⟨none, 0, rfl, own_nil _ _ _, Below.refl _ _⟩
theorem rSub_any {A B : Option Addr} {c d : Nat} (xs ys : List Int) (hx : xs.length ≤ 9223372036854775807) (hy : ys.length ≤ 9223372036854775807) (ix : I64s xs) (iy : I64s ys) (w : World)
    (ra : Rd (Value.int .i64) w w.heap.size A xs) (rb : Rd (Value.int .i64) w w.heap.size B ys) :
    Calls Try.prog 16 #[.slice A xs.length c, .slice B ys.length d] w (OwnInts (opV (· - ·) xs ys) (opE (· - ·) xs ys) w) := by
  have CM := hid (two_any A B xs.length ys.length c d hx hy)
  by_cases ht : twoE xs.length ys.length = 0
  · have e1 : opE (· - ·) xs ys = seqE (num2 (· - ·) xs ys) xs.length := if_pos ht
    have e2 : opV (· - ·) xs ys = seqV (num2 (· - ·) xs ys) xs.length := if_pos ht
    rw [e1, e2]
    obtain ⟨hn, hl⟩ := twoE_ok ht
    have HL := hid hl
    have HA := hid ra
    have HB := hid rb
    have IX := hid ix
    have IY := hid iy
    rw [ht] at CM
    clear e1 e2 ht hl ra rb ix iy
    go_enter Try.func16, Try.ntmps16
    go_wp2_with fail
    refine (CM.out _).mono ?_
    rintro _ _ ⟨rfl, rfl⟩
    go_wp2_with fail
    go_loopw [7, 19] (fun o i wr => ∃ (k : Nat) (S : List Int) (A2 : Option Addr) (c2 : Nat), k ≤ xs.length ∧ i = .int .i64 k ∧ S.length = k ∧ o = .slice A2 S.length c2 ∧ S = pre (num2 (· - ·) xs ys) k ∧ wr.ownsRow w.heap.size 2 1 (.slice A2 S.length c2) S.length (S.map (Value.int .i64)) ∧ seqE (num2 (· - ·) xs ys) k = 0 ∧ Below w.heap.size w wr) (fun _ i _ => xs.length - (intOf i).toNat)
    case atStart => exact ⟨0, [], none, 0, by omega, rfl, rfl, rfl, rfl, own_nil _ _ _, rfl, Below.refl _ _⟩
    case round =>
      obtain ⟨k, S, A2, c2, hk, rfl, hSk, rfl, hS, hown, hs, hb⟩ := hrel
      have HS := hid hS
      have HO := hid hown
      have HE := hid hs
      have HSK := hid hSk
      have lS : S.length ≤ 4096 := by omega
      clear hS hown hs hSk
      by_cases hlt : k < xs.length
      · have hlt2 : k < ys.length := by have := HL.out; omega
        obtain ⟨b1, o1, x, rfl, l1, ex, c1⟩ := (HA.out.below hb).at_ hlt
        obtain ⟨b2, o2, y, rfl, l2, ey, c2⟩ := (HB.out.below hb).at_ hlt2
        have CA := hid (ref_Sub x y (IX.out.at_ ex) (IY.out.at_ ey))
        have en : num2 (· - ·) xs ys k = (ckV (x - y), ckE (x - y)) := by unfold num2; rw [getD_of ex, getD_of ey]
        have EN := hid en
        clear ex ey en
        obtain ⟨z, hz⟩ : ∃ z, ckV (x - y) = z := ⟨_, rfl⟩
        obtain ⟨er, he⟩ : ∃ z, ckE (x - y) = z := ⟨_, rfl⟩
        rw [hz, he] at CA EN
        clear hz he
        go_wp2_with fail
        go_quiet ((go_at_call 44; exact quietL CA.out _))
        have hbn := hb.trans (belowN w.heap.size wr nq)
        by_cases her : er = 0
        · subst her
          have h0 := own_on HO.out ((belowN wr.heap.size wr nq).alloc (Nat.le_refl _) (.cells #[.int .i64 z] 2))
          have hr0 : Rd (Value.int .i64) ((wr.drewN nq).alloc (.cells #[.int .i64 z] 2)) _ (some ⟨wr.heap.size, 0, none⟩) [z] := rd_one (one_cell (wr.drewN nq) (.int .i64 z) 2).1
          go_wp2_with (at_builtin; refine wpList_app (Value.int .i64) (fun _ => rfl) _ rfl _ _ 22 rfl w.heap.size 2 (.int .i64 0) 8 Try.underlying22 info_i64 rfl S _ _ rfl h0 [z] _ 1 _ rfl hr0 (by simp [maxLen]; omega) (by simp; omega) (by have := hb.size; simp; omega) ?_)
          rintro S' A' c' w1 hS' ho hb1 _
          have HS' := hid hS'
          have HO' := hid ho
          clear hS' ho
          go_wp2_with fail
          go_roundw
          case rel =>
            refine ⟨k + 1, S', A', c', by omega, by go_num, ?_, rfl, ?_, HO'.out, ?_, (hbn.alloc hb.size _).trans hb1⟩
            · rw [HS'.out, List.length_append, HSK.out]; rfl
            · rw [HS'.out, HS.out, pre_succ, EN.out]
            · rw [seqE_succ HE.out, EN.out]
          case measure => simp [intOf]; omega
        · have hne : (er != 0) = true := by simpa using her
          go_wp2_with fail
          go_ret2
          obtain ⟨e1, e2⟩ := seq_off HE.out hlt (by rw [EN.out]; exact her)
          rw [e1, e2, EN.out]
          exact ⟨none, 0, rfl, own_nil _ _ _, hbn⟩
      · obtain rfl : k = xs.length := by omega
        go_wp2_with fail
        go_ret2
        rw [HE.out, seqV_pre HE.out, ← HS.out]
        exact ⟨A2, c2, rfl, HO.out, hb⟩
  · have e1 : opE (· - ·) xs ys = twoE xs.length ys.length := if_neg ht
    have e2 : opV (· - ·) xs ys = [] := if_neg ht
    rw [e1, e2]
    clear e1 e2
    obtain ⟨t, hte⟩ : ∃ t, twoE xs.length ys.length = t := ⟨_, rfl⟩
    rw [hte] at ht CM ⊢
    have hne : (t != 0) = true := by simpa using ht
    clear ra rb ix iy hte ht
    go_enter Try.func16, Try.ntmps16
    go_wp2_with fail
    refine (CM.out _).mono ?_
    rintro _ _ ⟨rfl, rfl⟩
    go_wp2_with fail
    go_ret2
    exact ⟨none, 0, rfl, own_nil _ _ _, Below.refl _ _⟩
end Go.Proofs.Ytmljhckbeoalgaa
