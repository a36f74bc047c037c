
/- The document's vec: Sum; the chapter's examples; how many are short enough. -/
import Derived.Test.YtmljhckbeoalgaaVecT
namespace Go.Proofs.Ytmljhckbeoalgaa
open Go.RowKit
set_option maxHeartbeats 400000
set_option linter.unusedVariables false
theorem rSum_any (A : Option Addr) (c : Nat) (rows : List (List Int)) (ho : RowsOk rows) (hr : rows.length ≤ 1099511627776) (w : World) (ra : RdRows w w.heap.size A rows) :
    Calls Try.prog 35 #[.slice A rows.length c] w (OwnInts (sumAll rows).1 (sumAll rows).2 w) := by
  have RA := hid ra
  have HR := hid ho
  clear ra ho
  go_enter Try.func35, Try.ntmps35
  go_wp2_with fail
  go_loopw [4, 12] (fun s i wr => ∃ (k : Nat) (S : List Int) (A2 : Option Addr) (c2 : Nat), k ≤ rows.length ∧ i = .int .i64 k ∧ s = .slice A2 S.length c2 ∧ wr.ownsRow w.heap.size 2 1 (.slice A2 S.length c2) S.length (S.map (Value.int .i64)) ∧ I64s S ∧ S.length ≤ 4096 ∧ (k = 0 → S = []) ∧ (1 ≤ k → sumFrom S (rows.drop k) = sumAll rows) ∧ Below w.heap.size w wr) (fun _ i _ => rows.length - (intOf i).toNat)
  case atStart => exact ⟨0, [], none, 0, by omega, rfl, rfl, own_nil _ _ _, by intro x hx; simp at hx, by simp, fun _ => rfl, fun h => absurd h (by omega), Below.refl _ _⟩
  case round =>
    obtain ⟨k, S, A2, c2, hk, rfl, rfl, hS, iS, lS, h0S, hs, hbr⟩ := hrel
    have HSO := hid hS
    have HSI := hid iS
    have HSE := hid hs
    have HS0 := hid h0S
    clear hS iS hs h0S
    by_cases hlt : k < rows.length
    · obtain ⟨u, hu⟩ : ∃ u, rows[k]? = some u := ⟨_, List.getElem?_eq_getElem hlt⟩
      obtain ⟨b, off, A3, c3, rfl, l3, hc3, hr3⟩ := RA.out k u hu
      have hc4 := (hbr.cell (p := ⟨b, off + k, none⟩) l3).trans hc3
      obtain ⟨iu, lu⟩ := HR.out u (List.mem_of_getElem? hu)
      by_cases hk0 : k = 0
      · have hk1 : ((k : Int) == 0) = true := by simp; omega
        have hk2 : k ≤ 0 := by omega
        have CM := hid (rCheck_any A3 u.length c3 (by omega))
        obtain ⟨v0, r0, hrows⟩ : ∃ v r, rows = v :: r := by
          cases rows with
          | nil => simp at hlt
          | cons v r => exact ⟨v, r, rfl⟩
        have huv : v0 = u := by rw [hk0, hrows] at hu; simpa using hu
        have HV := hid (And.intro hrows huv)
        have HIU := hid iu
        clear hrows huv iu
        by_cases hl : 4096 < u.length
        · rw [show oneE u.length = 3 from if_pos hl] at CM
          clear hc3 hr3 hu hk0
          go_wp2_with fail
          refine (CM.out _).mono ?_
          rintro _ _ ⟨rfl, rfl⟩
          go_wp2_with fail
          go_ret2
          obtain ⟨hrows, rfl⟩ := HV.out
          rw [show sumAll rows = ([], 3) by rw [hrows]; exact if_pos hl]
          exact ⟨none, 0, rfl, own_nil _ _ _, hbr⟩
        · rw [show oneE u.length = 0 from if_neg hl] at CM
          have hrd := hr3.below hbr
          have hSe := HS0.out hk0
          have HK0 := hid hk0
          clear hc3 hr3 hu hk0
          have HO0 := HSO.out
          have hS0 : S.length ≤ 0 := by rw [hSe]; simp
          have HSe := hid hSe
          clear hSe
          go_wp2_with fail
          refine (CM.out _).mono ?_
          rintro _ _ ⟨rfl, rfl⟩
          go_wp2_with (at_builtin; refine wpList_app (Value.int .i64) (fun _ => rfl) _ rfl _ _ 22 rfl w.heap.size 2 (.int .i64 0) 8 Try.underlying22 info_i64 rfl S _ _ rfl HO0 u _ c3 _ rfl hrd (by simp [maxLen]; omega) (by omega) hbr.size ?_)
          rintro S' A' c' w1 hS' ho1 hb1 _
          have HS' := hid hS'
          have HO' := hid ho1
          clear hS' ho1 HO0
          have hlS : S'.length ≤ 4096 := by rw [HS'.out, HSe.out]; simp; omega
          go_wp2_with fail
          go_roundw
          case rel =>
            refine ⟨k + 1, S', A', c', by omega, by go_num, rfl, HO'.out, ?_, hlS, fun h => absurd h (by omega), fun _ => ?_, hbr.trans hb1⟩
            · rw [HS'.out, HSe.out]; exact HIU.out
            · obtain ⟨hrows, rfl⟩ := HV.out
              rw [HS'.out, HSe.out, HK0.out, hrows]
              exact (if_neg hl).symm
          case measure => simp [intOf]; omega
      · have hk1 : ((k : Int) == 0) = false := by simp; omega
        have CA := hid (rAdd_any (c := c2) (d := c3) S u (by omega) (by omega) HSI.out iu wr (own_rd HSO.out) ((hr3.below hbr).more hbr.size))
        have hgo := hid (fun h => sum_go (S := S) hu h)
        have hoff := hid (fun h => sum_off (S := S) hu h)
        have hlen := opV_len (· + ·) S u
        have hi64 := hid (opV_i64 (· + ·) S u)
        obtain ⟨er, he⟩ : ∃ x, opE (· + ·) S u = x := ⟨_, rfl⟩
        obtain ⟨T, hT⟩ : ∃ x, opV (· + ·) S u = x := ⟨_, rfl⟩
        rw [he, hT] at CA hgo
        rw [he] at hoff
        rw [hT] at hlen hi64
        have HK := hid hk0
        have kge : 1 ≤ k := by omega
        clear hc3 hr3 hu he hT hk0 iu
        go_wp2_with fail
        refine CA.out.mono ?_
        rintro _ w2 ⟨A4, c4, rfl, ho4, hb4⟩
        have HO4 := hid ho4
        clear ho4
        have hbr2 := hbr.trans (hb4.mono hbr.size)
        by_cases her : er = 0
        · subst her
          go_wp2_with fail
          go_roundw
          case rel => exact ⟨k + 1, T, A4, c4, by omega, by go_num, rfl, own_base HO4.out hbr.size, hi64.out, hlen, fun h => absurd h (by omega), fun _ => by rw [← hgo.out (by simp)]; exact HSE.out kge, hbr2⟩
          case measure => simp [intOf]; omega
        · have hne : (er != 0) = true := by simpa using her
          have hh := hid (hoff.out her)
          go_wp2_with fail
          go_ret2
          rw [← HSE.out kge, hh.out]
          exact ⟨none, 0, rfl, own_nil _ _ _, hbr2⟩
    · obtain rfl : k = rows.length := by omega
      go_wp2_with fail
      go_ret2
      have e : sumAll rows = (S, 0) := by
        by_cases h1 : 1 ≤ rows.length
        · have := HSE.out h1
          rw [List.drop_length] at this
          exact this.symm
        · have hnil : rows = [] := List.eq_nil_of_length_eq_zero (by omega)
          rw [HS0.out (by omega), hnil]; rfl
      rw [e]
      exact ⟨A2, c2, rfl, HSO.out, hbr⟩
end Go.Proofs.Ytmljhckbeoalgaa
