
/- Numbers woven, by the document. -/
import Derived.Test.YtgkkliibeiklbaaPlB
namespace Go.Proofs.Ytgkkliibeiklbaa
open Go.RowKit
set_option maxHeartbeats 400000
set_option linter.unusedVariables false
theorem ref_Weave {A : Option Addr} {c : Nat} (wd : Int) (l : List Int) (hw : I64 wd) (hl : l.length ≤ 100000) (ul : U64s l) (w : World) (ra : Rd (Value.int .u64) w w.heap.size A l) :
    Calls Try.prog 29 #[.int .i64 wd, .slice A l.length c] w (OwnE 5 .u8 w.heap.size (wevV wd l) (mayE wd l) w) := by
  have CM := hid (ref_may (A := A) (c := c) wd l hw (by omega) ul w ra)
  by_cases h : mayE wd l = 0
  · obtain ⟨k, rfl, hk, hb, _⟩ := may_nat h ul
    have hlen := (bys_ok hb).2.2
    unfold wevV
    rw [if_pos h, Int.toNat_natCast]
    rw [h] at CM ⊢
    obtain ⟨f, hf⟩ : ∃ f, plF k l = f := ⟨_, rfl⟩
    have HF : Hid (∀ i x q j, l[i]? = some x → q + j + 1 = k → ((x / 2 ^ q).tmod 2 == 1) = f (j * l.length + i)) := hid (fun i x q j hx hq => by
      rw [← hf, pl_at (List.getElem?_eq_some_iff.1 hx).1, getD_of hx, beq_bt (ul.at_ hx).1, show k - 1 - j = q by omega])
    rw [hf]
    obtain ⟨n, hn⟩ : ∃ n, l.length = n := ⟨_, rfl⟩
    have RA := hid ra
    have HN := hid hn
    have hnk : k * n ≤ 131072 := by
      have := Nat.mul_le_mul hk (show n ≤ 4096 by omega)
      omega
    have CP := hid (fun A2 c2 W h => ref_pack (A := A2) (c := c2) (mkB (k * l.length) f) (by rw [mkB_len, hn]; omega) W h)
    have e : pkL (mkB (k * l.length) f).length (fun p => (mkB (k * l.length) f).getD p false) = pkL (k * l.length) f := by
      rw [mkB_len]
      exact pkL_congr fun p hp => by rw [List.getD_eq_getElem?_getD, mkB_at _ hp, Option.getD_some]
    rw [e] at CP
    obtain ⟨X, hX⟩ : ∃ X, pkL (k * l.length) f = X := ⟨_, rfl⟩
    rw [hX] at CP ⊢
    rw [hn] at CP HF
    have hl4 : n ≤ 4096 := by omega
    rw [hn] at CM ⊢
    clear h hf ra hn ul hb hlen hl hX e hw
    go_enter Try.func29, Try.ntmps29
    go_wp2_with fail
    refine CM.out.mono ?_
    rintro _ _ ⟨rfl, rfl⟩
    go_wp2_with fail
    go_loopw [7, 8, 10] (fun t s x0 wr => ∃ (j : Nat) (u : Int) (S : List Bool) (A2 : Option Addr) (c2 : Nat), -1 ≤ u ∧ s = .int .i64 u ∧ u + j + 1 = k ∧ t = .slice A2 S.length c2 ∧ S = mkB (j * n) f ∧ wr.ownsRow w.heap.size 4 1 (.slice A2 S.length c2) S.length (S.map Value.bool) ∧ Below w.heap.size w wr) (fun _ s _ _ => (intOf s + 1).toNat)
    case atStart => exact ⟨0, (k : Int) - 1, [], none, 0, by omega, rfl, by omega, rfl, by rw [Nat.zero_mul]; rfl, own_nil _ _ _, Below.refl _ _⟩
    case round =>
      obtain ⟨j, u, S, A2, c2, hu, rfl, huj, rfl, hS, ho, hbel⟩ := hrel
      have HS := hid hS
      have HO := hid ho
      clear hS ho
      by_cases hu0 : 0 ≤ u
      · obtain ⟨q, rfl⟩ := Int.eq_ofNat_of_zero_le hu0
        have hq64 : q ≤ 32 := by omega
        have HX := hid (fun i x hx => HF.out i x q j hx (by omega))
        go_wp2_with fail
        go_loopw [7, 10, 25] (fun t x0 i wr => ∃ (m : Nat) (S : List Bool) (A2 : Option Addr) (c2 : Nat), m ≤ n ∧ i = .int .i64 m ∧ t = .slice A2 S.length c2 ∧ S = mkB (j * n + m) f ∧ wr.ownsRow w.heap.size 4 1 (.slice A2 S.length c2) S.length (S.map Value.bool) ∧ Below w.heap.size w wr) (fun _ _ i _ => n - (intOf i).toNat)
        case atStart => exact ⟨0, S, A2, c2, by omega, rfl, rfl, HS.out, HO.out, hbel⟩
        case round =>
          obtain ⟨m, S, A2, c2, hm, rfl, rfl, hS, ho, hbel⟩ := hrel
          clear HS HO
          have hSl : S.length ≤ 131072 := by
            have h2 : (j + 1) * n ≤ k * n := Nat.mul_le_mul_right n (by omega)
            rw [Nat.add_mul, Nat.one_mul] at h2
            rw [hS, mkB_len]; omega
          have HS := hid hS
          have HO := hid ho
          clear hS ho
          by_cases hlt : m < n
          · obtain ⟨b1, o1, x, rfl, l1, ex, c1⟩ := (RA.out.below hbel).at_ (k := m) (by rw [HN.out]; exact hlt)
            have e1 := HX.out m x ex
            obtain ⟨v, hv⟩ : ∃ v, f (j * n + m) = v := ⟨_, rfl⟩
            rw [hv] at e1
            have HV := hid hv
            have hr0 : Rd Value.bool (wr.alloc (.cells #[.bool v] 4)) _ (some ⟨wr.heap.size, 0, none⟩) [v] := rd_one (one_cell wr (.bool v) 4).1
            have h0' := own_on HO.out ((Below.refl wr.heap.size wr).alloc (Nat.le_refl _) (.cells #[.bool v] 4))
            clear hv ex
            go_wp2_with (at_builtin; refine wpList_app Value.bool (fun _ => rfl) _ rfl _ _ 38 rfl w.heap.size 4 (.bool false) 1 Try.underlying38 info_bool rfl S _ _ rfl h0' [v] _ 1 _ rfl hr0 (by simp [maxLen]; omega) (by simp; omega) (by have := hbel.size; simp; omega) ?_)
            rintro S' A' c' w4 hS' ho hb4 _
            have HS' := hid hS'
            have HO' := hid ho
            clear hS' ho h0' hr0
            go_wp2_with fail
            go_roundw
            case rel => exact ⟨m + 1, S', A', c', by omega, by go_num, rfl, by rw [HS'.out, HS.out, ← HV.out, ← Nat.add_assoc, mkB_succ], HO'.out, (hbel.alloc hbel.size _).trans hb4⟩
            case measure => simp [intOf]; omega
          · obtain rfl : m = n := by omega
            have HS2 : Hid (S = mkB ((j + 1) * m) f) := hid (by rw [Nat.add_mul, Nat.one_mul]; exact HS.out)
            go_wp2_with fail
            go_roundw
            case rel => exact ⟨j + 1, (q : Int) - 1, S, A2, c2, by omega, by go_num, by omega, rfl, HS2.out, HO.out, hbel⟩
            case measure => first | (simp [intOf]; done) | (simp [intOf]; omega)
      · obtain rfl : u = -1 := by omega
        obtain rfl : j = k := by omega
        have hr := own_rd HO.out
        have hS := HS.out
        have CQ := CP.out A2 c2 wr (by rw [← hS]; exact hr)
        rw [← hS] at CQ
        have CQ := hid CQ
        clear hr hS
        go_wp2_with fail
        refine CQ.out.mono ?_
        rintro _ w5 ⟨A5, c5, rfl, ho5, hb5⟩
        have HO5 := hid (own_base ho5 hbel.size)
        clear ho5
        go_wp2_with fail
        go_ret2
        exact ⟨A5, c5, rfl, HO5.out, hbel.trans (hb5.mono hbel.size)⟩
  · have e : wevV wd l = [] := if_neg h
    rw [e]
    obtain ⟨E, hE⟩ : ∃ E, mayE wd l = E := ⟨_, rfl⟩
    rw [hE] at CM h ⊢
    have hne : (E != 0) = true := by simpa using h
    clear h e hE ra ul
    go_enter Try.func29, Try.ntmps29
    go_wp2_with fail
    refine CM.out.mono ?_
    rintro _ _ ⟨rfl, rfl⟩
    go_wp2_with fail
    go_ret2
    exact .nil (Below.refl _ _)
end Go.Proofs.Ytgkkliibeiklbaa
