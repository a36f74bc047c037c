
/- Bits put into bytes; numbers packed, woven, signs, by the document. -/
import Derived.Test.YtgkkliibeiklbaaPlA
namespace Go.Proofs.Ytgkkliibeiklbaa
open Go.RowKit
set_option maxHeartbeats 400000
set_option linter.unusedVariables false
theorem byF_zero (f : Nat → Bool) (i : Nat) : byF 0 f i = 0 := by
  unfold byF
  simp [bv_not]
theorem ref_pack {A : Option Addr} {c : Nat} (bs : List Bool) (hl : bs.length ≤ 1000000) (w : World) (ra : Rd Value.bool w w.heap.size A bs) :
    Calls Try.prog 51 #[.slice A bs.length c] w (OwnOf 5 .u8 w.heap.size (pkL bs.length fun p => bs.getD p false) w) := by
  obtain ⟨f, hf⟩ : ∃ f : Nat → Bool, (fun p => bs.getD p false) = f := ⟨_, rfl⟩
  have HF : Hid (∀ k x, bs[k]? = some x → f k = x) := hid (fun k x h => by rw [← hf]; simp [List.getD, h])
  rw [hf]
  obtain ⟨m, hm⟩ : ∃ m, (bs.length + 7) / 8 = m := ⟨_, rfl⟩
  have hme : ((bs.length : Int) + 7) / 8 = (m : Int) := by omega
  have hm2 : m ≤ 200000 := by omega
  have hmk := fun W => run_make_row' (P := Try.prog) 22 5 (.int .u8 0) 1 Try.underlying22 info_u8 rfl .i64 .i64 m (by omega) (by omega) W
  have HM := hid hm
  have RA := hid ra
  clear hf ra hm
  go_enter Try.func51, Try.ntmps51
  go_wp2_with fail
  go_loopw [4, 5, 13] (fun i0 b0 i wr => ∃ k : Nat, k ≤ bs.length ∧ i = .int .i64 k ∧ wr.rowIs w.heap.size 5 m (fun j => .int .u8 (byF k f j)) ∧ Below w.heap.size w wr) (fun _ _ i _ => bs.length - (intOf i).toNat)
  case atStart => exact ⟨0, by omega, rfl, by simpa [byF_zero] using World.rowIs_made w (.int .u8 0) m _, by go_grown⟩
  case round =>
    obtain ⟨k, hk, rfl, hrow, hbel⟩ := hrel
    have hz := hrow.lt
    clear hmk
    by_cases hlt : k < bs.length
    · obtain ⟨b1, o1, x, rfl, l1, ex, c1⟩ := (RA.out.below hbel).at_ hlt
      have hfx := HF.out k x ex
      have hkm : k / 8 < m := by have := HM.out; omega
      have f1 := hrow.frozen (k / 8)
      have c2 := hrow.cell hkm
      have HR := hid hrow
      cases x with
      | false =>
        have HE : Hid (∀ j, byF (k + 1) f j = byF k f j) := hid (fun j => byF_off hfx)
        clear ex hfx hrow
        go_wp2_with fail
        go_roundw
        case rel => exact ⟨k + 1, by omega, by go_num, HR.out.congr fun j _ => by rw [HE.out], hbel⟩
        case measure => simp [intOf]; omega
      | true =>
        have HE : Hid (∀ j, j ≠ k / 8 → byF (k + 1) f j = byF k f j) := hid (fun j hj => byF_other hj)
        have e1 := byF_on hfx
        have hb := byF_lt (k + 1) f (k / 8)
        obtain ⟨y, hy⟩ : ∃ y, byF k f (k / 8) = y := ⟨_, rfl⟩
        obtain ⟨z, hz'⟩ : ∃ z, byF (k + 1) f (k / 8) = z := ⟨_, rfl⟩
        rw [hz'] at e1 hb
        rw [hy] at e1 c2
        have HZ := hid hz'
        clear ex hfx hrow hy hz'
        go_wp2_with fail
        go_region
        go_wp2_with fail
        go_roundw
        case rel =>
          refine ⟨k + 1, by omega, by go_num, ?_, (hbel.setCell (Nat.le_refl _) _).drew⟩
          rw [← e1]
          refine World.rowIs.congr (f := fun j => if j = k / 8 then .int .u8 z else .int .u8 (byF k f j)) (HR.out.set (k / 8) (.int .u8 z)) fun j hj => ?_
          by_cases e : j = k / 8
          · rw [if_pos e, e, HZ.out]
          · rw [if_neg e, HE.out j e]
        case measure => simp [intOf]; omega
    · obtain rfl : k = bs.length := by omega
      clear hz
      have HR := hid hrow
      clear hrow
      go_wp2_with fail
      go_ret
      have h := own_made (w' := wr) HR.out (Nat.le_refl w.heap.size) (by unfold maxLen; omega)
      refine ⟨some ⟨w.heap.size, 0, none⟩, m, ?_, ?_, hbel⟩
      · rw [pkL_len, HM.out]; rfl
      · rw [pkL_len, HM.out]
        unfold pkL
        rw [HM.out, List.map_map]
        exact h
theorem ref_Signs {A : Option Addr} {c : Nat} (bs : List Bool) (hl : bs.length ≤ 1000000) (w : World) (ra : Rd Value.bool w w.heap.size A bs) :
    Calls Try.prog 31 #[.slice A bs.length c] w (OwnE 5 .u8 w.heap.size (sgnV bs) (sgnE bs) w) := by
  unfold sgnV sgnE
  by_cases h : 4096 < bs.length
  · rw [if_pos h, if_pos h]
    clear ra
    go_enter Try.func31, Try.ntmps31
    go_wp2_with fail
    go_ret2
    exact .nil (Below.refl _ _)
  · rw [if_neg h, if_neg h]
    have CP := hid (ref_pack (A := A) (c := c) bs hl w ra)
    obtain ⟨X, hX⟩ : ∃ X, (pkL bs.length fun p => bs.getD p false) = X := ⟨_, rfl⟩
    rw [hX] at CP ⊢
    clear hX ra
    go_enter Try.func31, Try.ntmps31
    go_wp2_with fail
    refine CP.out.mono ?_
    rintro _ w1 ⟨A1, c1, rfl, ho, hb⟩
    have HO := hid ho
    clear ho
    go_wp2_with fail
    go_ret2
    exact ⟨A1, c1, rfl, HO.out, hb⟩
theorem beq_bt {x : Int} (h0 : 0 ≤ x) (q : Nat) : ((x / 2 ^ q).tmod 2 == 1) = bt x q := by
  rw [Int.tmod_eq_emod_of_nonneg (Int.ediv_nonneg h0 (Int.pow_nonneg (by decide)))]
  unfold bt
  by_cases h : x / 2 ^ q % 2 = 1 <;> simp [h]
theorem ref_Pack {A : Option Addr} {c : Nat} (wd : Int) (l : List Int) (hw : I64 wd) (hl : l.length ≤ 100000) (ul : U64s l) (w : World) (ra : Rd (Value.int .u64) w w.heap.size A l) :
    Calls Try.prog 27 #[.int .i64 wd, .slice A l.length c] w (OwnE 5 .u8 w.heap.size (pckV wd l) (mayE wd l) w) := by
  have CM := hid (ref_may (A := A) (c := c) wd l hw (by omega) ul w ra)
  by_cases h : mayE wd l = 0
  · obtain ⟨k, rfl, hk, hb, _⟩ := may_nat h ul
    have hlen := (bys_ok hb).2.2
    unfold pckV
    rw [if_pos h, Int.toNat_natCast]
    rw [h] at CM ⊢
    obtain ⟨f, hf⟩ : ∃ f, sdF k l = f := ⟨_, rfl⟩
    have HF : Hid (∀ i x q j, l[i]? = some x → q + j + 1 = k → ((x / 2 ^ q).tmod 2 == 1) = f (i * k + j)) := hid (fun i x q j hx hq => by
      rw [← hf, sd_at (by omega), getD_of hx, beq_bt (ul.at_ hx).1, show k - 1 - j = q by omega])
    rw [hf]
    obtain ⟨n, hn⟩ : ∃ n, l.length = n := ⟨_, rfl⟩
    have RA := hid ra
    have HN := hid hn
    have hnk : n * k ≤ 131072 := by
      have := Nat.mul_le_mul (show n ≤ 4096 by omega) hk
      omega
    have CP := hid (fun A2 c2 W h => ref_pack (A := A2) (c := c2) (mkB (k * l.length) f) (by rw [mkB_len, hn, Nat.mul_comm]; omega) W h)
    have e : pkL (mkB (k * l.length) f).length (fun p => (mkB (k * l.length) f).getD p false) = pkL (k * l.length) f := by
      rw [mkB_len]
      exact pkL_congr fun p hp => by rw [List.getD_eq_getElem?_getD, mkB_at _ hp, Option.getD_some]
    rw [e] at CP
    obtain ⟨X, hX⟩ : ∃ X, pkL (k * l.length) f = X := ⟨_, rfl⟩
    rw [hX] at CP ⊢
    rw [hn, Nat.mul_comm k n] at CP
    have hl4 : n ≤ 4096 := by omega
    rw [hn] at CM ⊢
    clear h hf ra hn ul hb hlen hl hX e hw
    go_enter Try.func27, Try.ntmps27
    go_wp2_with fail
    refine CM.out.mono ?_
    rintro _ _ ⟨rfl, rfl⟩
    go_wp2_with fail
    go_loopw [7, 9, 10, 19] (fun t x0 k0 i wr => ∃ (m : Nat) (S : List Bool) (A2 : Option Addr) (c2 : Nat), m ≤ n ∧ i = .int .i64 m ∧ t = .slice A2 S.length c2 ∧ S = mkB (m * k) f ∧ wr.ownsRow w.heap.size 4 1 (.slice A2 S.length c2) S.length (S.map Value.bool) ∧ Below w.heap.size w wr) (fun _ _ _ i _ => n - (intOf i).toNat)
    case atStart => exact ⟨0, [], none, 0, by omega, rfl, rfl, by rw [Nat.zero_mul]; rfl, own_nil _ _ _, Below.refl _ _⟩
    case round =>
      obtain ⟨m, S, A2, c2, hm, rfl, rfl, hS, ho, hbel⟩ := hrel
      have HS := hid hS
      have HO := hid ho
      clear hS ho
      by_cases hlt : m < n
      · obtain ⟨b1, o1, x, rfl, l1, ex, c1⟩ := (RA.out.below hbel).at_ (k := m) (by rw [HN.out]; exact hlt)
        have HX := hid (fun q j => HF.out m x q j ex)
        clear ex
        go_wp2_with fail
        go_loopw [7, 10] (fun t s wr => ∃ (j : Nat) (u : Int) (S : List Bool) (A2 : Option Addr) (c2 : Nat), -1 ≤ u ∧ s = .int .i64 u ∧ u + j + 1 = k ∧ t = .slice A2 S.length c2 ∧ S = mkB (m * k + j) f ∧ wr.ownsRow w.heap.size 4 1 (.slice A2 S.length c2) S.length (S.map Value.bool) ∧ Below w.heap.size w wr) (fun _ s _ => (intOf s + 1).toNat)
        case atStart => exact ⟨0, (k : Int) - 1, S, A2, c2, by omega, rfl, by omega, rfl, HS.out, HO.out, hbel⟩
        case round =>
          obtain ⟨j, u, S, A2, c2, hu, rfl, huj, rfl, hS, ho, hbel⟩ := hrel
          clear HS HO
          have hSl : S.length ≤ 131072 := by
            have h2 : (m + 1) * k ≤ n * k := Nat.mul_le_mul_right k (by omega)
            rw [Nat.add_mul, Nat.one_mul] at h2
            rw [hS, mkB_len]; omega
          have HS := hid hS
          have HO := hid ho
          clear hS ho
          by_cases hu0 : 0 ≤ u
          · obtain ⟨q, rfl⟩ := Int.eq_ofNat_of_zero_le hu0
            have e1 := HX.out q j (by omega)
            obtain ⟨v, hv⟩ : ∃ v, f (m * k + j) = v := ⟨_, rfl⟩
            rw [hv] at e1
            have HV := hid hv
            have hq64 : q ≤ 32 := by omega
            have hr0 : Rd Value.bool (wr.alloc (.cells #[.bool v] 4)) _ (some ⟨wr.heap.size, 0, none⟩) [v] := rd_one (one_cell wr (.bool v) 4).1
            have h0' := own_on HO.out ((Below.refl wr.heap.size wr).alloc (Nat.le_refl _) (.cells #[.bool v] 4))
            clear hv
            go_wp2_with (at_builtin; refine wpList_app Value.bool (fun _ => rfl) _ rfl _ _ 38 rfl w.heap.size 4 (.bool false) 1 Try.underlying38 info_bool rfl S _ _ rfl h0' [v] _ 1 _ rfl hr0 (by simp [maxLen]; omega) (by simp; omega) (by have := hbel.size; simp; omega) ?_)
            rintro S' A' c' w4 hS' ho hb4 _
            have HS' := hid hS'
            have HO' := hid ho
            clear hS' ho h0' hr0
            go_wp2_with fail
            go_roundw
            case rel => exact ⟨j + 1, (q : Int) - 1, S', A', c', by omega, by go_num, by omega, rfl, by rw [HS'.out, HS.out, ← HV.out, ← Nat.add_assoc, mkB_succ], HO'.out, (hbel.alloc hbel.size _).trans hb4⟩
            case measure => first | (simp [intOf]; done) | (simp [intOf]; omega)
          · obtain rfl : u = -1 := by omega
            obtain rfl : j = k := by omega
            have HS2 : Hid (S = mkB ((m + 1) * j) f) := hid (by rw [Nat.add_mul, Nat.one_mul]; exact HS.out)
            go_wp2_with fail
            go_roundw
            case rel => exact ⟨m + 1, S, A2, c2, by omega, by go_num, rfl, HS2.out, HO.out, hbel⟩
            case measure => first | (simp [intOf]; done) | (simp [intOf]; omega)
      · obtain rfl : m = n := by omega
        have hr := own_rd HO.out
        have hS := HS.out
        have CQ := CP.out A2 c2 wr (by rw [← hS]; exact hr)
        rw [← hS] at CQ
        have CQ := hid CQ
        clear hr hS
        go_wp2_with fail
        refine CQ.out.mono ?_
        rintro _ w5 ⟨A5, c5, rfl, ho5, hb5⟩
        have HO5 := hid (own_base ho5 hbel.size)
        clear ho5
        go_wp2_with fail
        go_ret2
        exact ⟨A5, c5, rfl, HO5.out, hbel.trans (hb5.mono hbel.size)⟩
  · have e : pckV wd l = [] := if_neg h
    rw [e]
    obtain ⟨E, hE⟩ : ∃ E, mayE wd l = E := ⟨_, rfl⟩
    rw [hE] at CM h ⊢
    have hne : (E != 0) = true := by simpa using h
    clear h e hE ra ul
    go_enter Try.func27, Try.ntmps27
    go_wp2_with fail
    refine CM.out.mono ?_
    rintro _ _ ⟨rfl, rfl⟩
    go_wp2_with fail
    go_ret2
    exact .nil (Below.refl _ _)
end Go.Proofs.Ytgkkliibeiklbaa
