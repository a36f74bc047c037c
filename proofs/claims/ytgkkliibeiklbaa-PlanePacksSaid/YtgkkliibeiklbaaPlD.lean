
/- Bytes read as bits, by the document. -/
import Derived.Test.YtgkkliibeiklbaaPlC
namespace Go.Proofs.Ytgkkliibeiklbaa
open Go.RowKit
set_option maxHeartbeats 400000
set_option linter.unusedVariables false
/-- A call's answer: a list that reads so, and an error; nothing that was there has turned. -/
def RdE {α : Type} (enc : α → Value) (xs : List α) (er : Int) (w : World) (e : Ending) (w' : World) : Prop :=
  ∃ A c, e = .returned (.tuple #[.slice A xs.length c, .int .i64 er]) ∧ xs.length ≤ c ∧ c ≤ 9223372036854775807 ∧ Rd enc w' w'.heap.size A xs ∧ Below w.heap.size w w'
theorem RdE.nil {α : Type} {enc : α → Value} {er : Int} {w w' : World} (hb : Below w.heap.size w w') : RdE enc ([] : List α) er w (.returned (.tuple #[.slice none 0 0, .int .i64 er])) w' := ⟨none, 0, rfl, by simp, by omega, Rd.none_, hb⟩
theorem beq_bt8 {x : Int} (h0 : 0 ≤ x) (q : Nat) : ((x / 2 ^ q).tmod 2 == 1) = bt x q := beq_bt h0 q
theorem fB_at {b : List Int} {i j q : Nat} {x : Int} (hx : b[i]? = some x) (h : q + j + 1 = 8) : fB b (8 * i + j) = bt x q := by
  unfold fB
  rw [show (8 * i + j) / 8 = i by omega, show (8 * i + j) % 8 = j by omega, getD_of hx, show 7 - j = q by omega]
theorem ref_bits {A : Option Addr} {c : Nat} (wd many : Int) (b : List Int) (hw : I64 wd) (hm : I64 many) (hl : b.length ≤ 100000) (ub : U8s b) (w : World) (ra : Rd (Value.int .u8) w w.heap.size A b) :
    Calls Try.prog 54 #[.int .i64 wd, .int .i64 many, .slice A b.length c] w (RdE Value.bool (bitV wd many b) (bitE wd many b) w) := by
  have CB := hid (ref_Bytes wd many hw hm)
  by_cases h : bysE wd many = 0
  · have hwm := bys_ok h
    obtain ⟨k, rfl⟩ := Int.eq_ofNat_of_zero_le hwm.1.1
    obtain ⟨m, rfl⟩ := Int.eq_ofNat_of_zero_le hwm.2.1
    have hbv := bys_nat h
    by_cases hlen : (b.length : Int) = bysV k m
    · have HXE : Hid ((tlB (k * m) b = true → bitE k m b = 0 ∧ bitV k m b = mkB (k * m) (fB b)) ∧ (tlB (k * m) b = false → bitE k m b = 6 ∧ bitV k m b = [])) := hid (by
        have e : bitE k m b = if tlB (k * m) b = true then 0 else 6 := by
          unfold bitE
          rw [if_pos h, if_pos hlen, Int.toNat_natCast, Int.toNat_natCast]
        constructor
        · intro ht
          rw [ht] at e
          refine ⟨e, ?_⟩
          unfold bitV
          rw [e, Int.toNat_natCast, Int.toNat_natCast]
          rfl
        · intro ht
          rw [ht] at e
          refine ⟨e, ?_⟩
          unfold bitV
          rw [e]
          rfl)
      obtain ⟨V, hV⟩ : ∃ V, bitV k m b = V := ⟨_, rfl⟩
      obtain ⟨E, hE⟩ : ∃ E, bitE k m b = E := ⟨_, rfl⟩
      rw [hV, hE] at HXE ⊢
      rw [h] at CB
      rw [← hlen] at CB
      have hkm : (k : Int) * (m : Int) = ((k * m : Nat) : Int) := by rw [Int.natCast_mul]
      obtain ⟨N, hN⟩ : ∃ N, k * m = N := ⟨_, rfl⟩
      rw [hN] at hkm HXE hbv
      have hN8 : N ≤ 8 * b.length := by omega
      have HF : Hid (∀ i x q j, b[i]? = some x → q + j + 1 = 8 → ((x / 2 ^ q).tmod 2 == 1) = fB b (8 * i + j)) := hid (fun i x q j hx hq => by
        rw [fB_at hx hq, beq_bt (ub.at_ hx).1])
      have HT := hid (tlB_iff N b)
      obtain ⟨f, hf⟩ : ∃ f, fB b = f := ⟨_, rfl⟩
      rw [hf] at HF HT HXE
      have RA := hid ra
      obtain ⟨n, hn⟩ : ∃ n, b.length = n := ⟨_, rfl⟩
      have HN := hid hn
      rw [hn] at CB hl hN8 HT ⊢
      clear h hV hE hbv hN hf ra ub hn hw hm hwm hlen
      go_enter Try.func54, Try.ntmps54
      go_wp2_with fail
      refine (CB.out _).mono ?_
      rintro _ _ ⟨rfl, rfl⟩
      go_wp2_with fail
      go_loopw [10, 12, 13, 31] (fun t x0 k0 i wr => ∃ (m : Nat) (S : List Bool) (A2 : Option Addr) (c2 : Nat), m ≤ n ∧ i = .int .i64 m ∧ t = .slice A2 S.length c2 ∧ S = mkB (8 * m) f ∧ wr.ownsRow w.heap.size 4 1 (.slice A2 S.length c2) S.length (S.map Value.bool) ∧ Below w.heap.size w wr) (fun _ _ _ i _ => n - (intOf i).toNat)
      case atStart => exact ⟨0, [], none, 0, by omega, rfl, rfl, rfl, own_nil _ _ _, Below.refl _ _⟩
      case round =>
        obtain ⟨m, S, A2, c2, hm, rfl, rfl, hS, ho, hbel⟩ := hrel
        have HS := hid hS
        have HO := hid ho
        clear hS ho
        by_cases hlt : m < n
        · obtain ⟨b1, o1, x, rfl, l1, ex, c1⟩ := (RA.out.below hbel).at_ (k := m) (by rw [HN.out]; exact hlt)
          have HX := hid (fun q j => HF.out m x q j ex)
          clear ex
          go_wp2_with fail
          go_loopw [10, 13] (fun t s wr => ∃ (j : Nat) (u : Int) (S : List Bool) (A2 : Option Addr) (c2 : Nat), -1 ≤ u ∧ s = .int .i64 u ∧ u + j + 1 = 8 ∧ t = .slice A2 S.length c2 ∧ S = mkB (8 * m + j) f ∧ wr.ownsRow w.heap.size 4 1 (.slice A2 S.length c2) S.length (S.map Value.bool) ∧ Below w.heap.size w wr) (fun _ s _ => (intOf s + 1).toNat)
          case atStart => exact ⟨0, 7, S, A2, c2, by omega, rfl, by omega, rfl, HS.out, HO.out, hbel⟩
          case round =>
            obtain ⟨j, u, S, A2, c2, hu, rfl, huj, rfl, hS, ho, hbel⟩ := hrel
            clear HS HO
            have hSl : S.length ≤ 900000 := by rw [hS, mkB_len]; omega
            have HS := hid hS
            have HO := hid ho
            clear hS ho
            by_cases hu0 : 0 ≤ u
            · obtain ⟨q, rfl⟩ := Int.eq_ofNat_of_zero_le hu0
              have e1 := HX.out q j (by omega)
              obtain ⟨v, hv⟩ : ∃ v, f (8 * m + j) = v := ⟨_, rfl⟩
              rw [hv] at e1
              have HV := hid hv
              have hq64 : q ≤ 7 := by omega
              have hr0 : Rd Value.bool (wr.alloc (.cells #[.bool v] 4)) _ (some ⟨wr.heap.size, 0, none⟩) [v] := rd_one (one_cell wr (.bool v) 4).1
              have h0' := own_on HO.out ((Below.refl wr.heap.size wr).alloc (Nat.le_refl _) (.cells #[.bool v] 4))
              clear hv
              go_wp2_with (at_builtin; refine wpList_app Value.bool (fun _ => rfl) _ rfl _ _ 38 rfl w.heap.size 4 (.bool false) 1 Try.underlying38 info_bool rfl S _ _ rfl h0' [v] _ 1 _ rfl hr0 (by simp [maxLen]; omega) (by simp; omega) (by have := hbel.size; simp; omega) ?_)
              rintro S' A' c' w4 hS' ho hb4 _
              have HS' := hid hS'
              have HO' := hid ho
              clear hS' ho h0' hr0
              go_wp2_with fail
              go_roundw
              case rel => exact ⟨j + 1, (q : Int) - 1, S', A', c', by omega, by go_num, by omega, rfl, by rw [HS'.out, HS.out, ← HV.out, ← Nat.add_assoc, mkB_succ], HO'.out, (hbel.alloc hbel.size _).trans hb4⟩
              case measure => first | (simp [intOf]; done) | (simp [intOf]; omega)
            · obtain rfl : u = -1 := by omega
              obtain rfl : j = 8 := by omega
              have HS2 : Hid (S = mkB (8 * (m + 1)) f) := hid (by rw [Nat.mul_add]; exact HS.out)
              go_wp2_with fail
              go_roundw
              case rel => exact ⟨m + 1, S, A2, c2, by omega, by go_num, rfl, HS2.out, HO.out, hbel⟩
              case measure => simp [intOf]; omega
        · obtain rfl : m = n := by omega
          have hcap := own_cap HO.out
          have hr := own_rd HO.out
          have hSl : S.length = 8 * m := by rw [HS.out, mkB_len]
          have hs1 := fun W => run_from (P := Try.prog) 38 Try.underlying38 Try.sizeOf4 A2 S.length c2 N (by omega) hcap.1 W
          have hs2 := fun W => run_upto (P := Try.prog) 38 Try.underlying38 Try.sizeOf4 A2 S.length c2 N (by omega) W
          have rT := hr.cut0 hcap.1 N
          have rD := hr.cut N hcap.1
          have lD : (S.drop N).length = S.length - N := by rw [List.length_drop]
          have HD : Hid (∀ j x, (S.drop N)[j]? = some x → x = f (N + j)) := hid (fun j x hx => by
            rw [List.getElem?_drop, HS.out] at hx
            have hlt2 := (List.getElem?_eq_some_iff.1 hx).1
            rw [mkB_len] at hlt2
            rw [mkB_at f hlt2] at hx
            exact (Option.some.inj hx).symm)
          have HTK : Hid (S.take N = mkB N f) := hid (by rw [HS.out, mkB_take f (by omega)])
          obtain ⟨D, hD⟩ : ∃ D, S.drop N = D := ⟨_, rfl⟩
          obtain ⟨T, hT⟩ : ∃ T, S.take N = T := ⟨_, rfl⟩
          obtain ⟨AD, hAD⟩ : ∃ A3, cutA A2 N c2 = A3 := ⟨_, rfl⟩
          obtain ⟨AT, hAT⟩ : ∃ A3, cutA A2 0 c2 = A3 := ⟨_, rfl⟩
          rw [hAD] at rD hs1
          rw [hAT] at rT hs2
          rw [hD] at rD lD HD
          rw [hT] at rT HTK
          rw [← lD] at hs1
          have RD := hid rD
          have RT := hid rT
          have HLD : Hid (D.length + N = 8 * m) := hid (by omega)
          have hDl : D.length ≤ 900000 := by omega
          have hcm : N ≤ c2 := by omega
          have hc9 := hcap.2
          clear HO HS hr hSl lD hD hT hAD hAT rD rT hcap
          go_wp2_with fail
          go_loop [15, 54] (fun x0 i => ∃ k : Nat, k ≤ D.length ∧ i = .int .i64 k ∧ ∀ j, j < k → D[j]? = some false) (fun _ i => D.length - (intOf i).toNat)
          case atStart => exact ⟨0, by omega, rfl, fun j hj => by omega⟩
          case round =>
            obtain ⟨k, hk, rfl, hs⟩ := hrel
            have HS := hid hs
            clear hs
            by_cases hlt : k < D.length
            · obtain ⟨b1, o1, x, rfl, l1, ex, c1⟩ := RD.out.at_ hlt
              cases x with
              | true =>
                have HE : Hid (tlB N b = false) := hid (by
                  cases ht : tlB N b with
                  | false => rfl
                  | true =>
                    have h1 := HT.out.1 ht (N + k) (by omega) (by have := HLD.out; omega)
                    rw [← HD.out k true ex] at h1
                    cases h1)
                have HX := hid (HXE.out.2 HE.out)
                clear ex
                go_wp2_with fail
                go_ret2
                rw [HX.out.1, HX.out.2]
                exact .nil hbel
              | false =>
                have HN2 : Hid (∀ j, j < k + 1 → D[j]? = some false) := hid (fun j hj => by
                  by_cases e : j = k
                  · subst e; exact ex
                  · exact HS.out j (by omega))
                clear ex
                go_wp2_with fail
                go_round
                case rel => exact ⟨k + 1, by omega, by go_num, HN2.out⟩
                case measure => simp [intOf]; omega
            · have HE : Hid (tlB N b = true) := hid (HT.out.2 fun p h1 h2 => by
                have h3 := HS.out (p - N) (by have := HLD.out; omega)
                have h4 := HD.out _ _ h3
                rw [show N + (p - N) = p by omega] at h4
                exact h4.symm)
              have HX := hid (HXE.out.1 HE.out)
              obtain rfl : k = D.length := by omega
              go_wp2_with fail
              go_ret2
              rw [HX.out.1, HX.out.2]
              refine ⟨AT, c2, ?_, ?_, hc9, ?_, hbel⟩
              · rw [mkB_len]; rfl
              · rw [mkB_len]; exact hcm
              · rw [← HTK.out]; exact RT.out
    · have e : bitE k m b = 4 := by unfold bitE; rw [if_pos h, if_neg hlen]
      have e2 : bitV k m b = [] := by unfold bitV; rw [e]; rfl
      rw [e, e2]
      rw [h] at CB
      obtain ⟨V, hV⟩ : ∃ V, bysV (k : Int) (m : Int) = V := ⟨_, rfl⟩
      rw [hV] at CB hlen
      have hne : ((b.length : Int) != V) = true := by simpa using hlen
      clear h e e2 hV ra ub hbv hlen
      go_enter Try.func54, Try.ntmps54
      go_wp2_with fail
      refine (CB.out _).mono ?_
      rintro _ _ ⟨rfl, rfl⟩
      go_wp2_with fail
      go_ret2
      exact .nil (Below.refl _ _)
  · have e : bitE wd many b = bysE wd many := if_neg h
    have e2 : bitV wd many b = [] := by unfold bitV; rw [e, if_neg h]
    rw [e, e2]
    obtain ⟨V, hV⟩ : ∃ V, bysV wd many = V := ⟨_, rfl⟩
    obtain ⟨E, hE⟩ : ∃ V, bysE wd many = V := ⟨_, rfl⟩
    rw [hE] at CB h ⊢
    rw [hV] at CB
    have hne : (E != 0) = true := by simpa using h
    clear h e e2 hV hE ra ub
    go_enter Try.func54, Try.ntmps54
    go_wp2_with fail
    refine (CB.out _).mono ?_
    rintro _ _ ⟨rfl, rfl⟩
    go_wp2_with fail
    go_ret2
    exact .nil (Below.refl _ _)
end Go.Proofs.Ytgkkliibeiklbaa
