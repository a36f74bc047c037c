
/- Zk: texts joined: PsLv. -/
import Derived.Test.YtecgbelgoomneaaGreatZPsP
import Derived.Test.YtecgbelgoomneaaGreatZa
/- The chapter's example of press; how many numbers and vectors are few enough. (PsP: the program's contracts pn_Check .. pn_Meets.) -/
namespace Go.Proofs.YtecgbelgoomneaaGreat
open Go.RowKit
set_option maxHeartbeats 2000000
set_option maxRecDepth 100000
set_option linter.unusedVariables false
theorem ps_live (w : World) :
    Calls Tryz.prog 9 #[] w fun e w' => e = .returned (.bool true) ∧ Below w.heap.size w w' := by
  have hE : prdE 1 1 0 [3, -5] [0, 0] 1 [] = 0 := by decide
  have hS : prdS 1 1 0 [3, -5] [0, 0] 1 [] = ⟨1, 2, [1], [-5], 0, 0, [], []⟩ := sameS_iff.1 (by decide)
  have hV : prdV 1 1 0 [3, -5] [0, 0] 1 [] = [3, 0] := by decide
  have C1 := hid (fun (A B : Option Addr) W (h1 : Rd (Value.int .i64) W W.heap.size A [3, -5]) (h2 : Rd (Value.int .i64) W W.heap.size B [0, 0]) => show Calls Tryz.prog 13 #[.agg #[.int .i64 1, .int .i64 1, .int .i64 0], .slice A 2 2, .slice B 2 2, .int .u64 1, .slice none 0 0] W fun e w' => ∃ (p : SentP) (A1 : Option Addr) (c1 : Nat), e = .returned (.tuple #[.agg #[.int .i64 1, .int .i64 2, .slice p.AL 1 p.cL, .slice p.AV 1 p.cV, .int .i64 0, .int .i64 0, .slice p.AE 0 p.cE, .slice p.AN 0 p.cN], .slice A1 2 c1, .int .i64 0]) ∧ Rd (Value.int .i64) w' w'.heap.size p.AL [1] ∧ Rd (Value.int .i64) w' w'.heap.size p.AV [-5] ∧ Rd (Value.int .i64) w' w'.heap.size A1 [3, 0] ∧ Below W.heap.size W w' from
    (pn_Round (A := A) (B := B) (D := none) (c := 2) (d := 2) (q := 0) 1 1 0 (by decide) (by decide) [3, -5] [0, 0] (by intro x hx; simp at hx; unfold I64; omega) (by intro x hx; simp at hx; unfold I64; omega) (by decide) (by decide) 1 (by decide) [] (by simp) (by decide) W h1 h2 Rd.none_).mono (by
      rintro e w' ⟨p, A1, c1, rfl, ho, o1, hb⟩
      have hrd := ho.rd
      have hr1 := own_rd o1
      rw [hS] at hrd
      rw [hV] at hr1
      rw [hE, hV, hS]
      exact ⟨p, A1, c1, rfl, hrd.1, hrd.2.1, hr1, hb⟩))
  have C3 := hid (fun (A B : Option Addr) (c d : Nat) W (h1 : Rd (Value.int .i64) W W.heap.size A [-5]) (h2 : Rd (Value.int .i64) W W.heap.size B [-5]) => rSame_any (A := A) (B := B) (c := c) (d := d) [-5] [-5] (by decide) (by decide) W h1 h2)
  have C4 := hid (fun (A B : Option Addr) (c d : Nat) W (h1 : Rd (Value.int .i64) W W.heap.size A [3, 0]) (h2 : Rd (Value.int .i64) W W.heap.size B [3, 0]) => rSame_any (A := A) (B := B) (c := c) (d := d) [3, 0] [3, 0] (by decide) (by decide) W h1 h2)
  rw [eqB_self] at C3 C4
  rw [show ([-5] : List Int).length = 1 from rfl] at C3
  rw [show ([3, 0] : List Int).length = 2 from rfl] at C4
  clear hE hS hV
  have G0 := hid (sg_up w (.cells #[.int .i64 3, .int .i64 (-5)] 2))
  have rA := (rd_new (enc := Value.int .i64) w 2 [3, -5]).on (sg_up (w.alloc (.cells #[.int .i64 3, .int .i64 (-5)] 2)) (.cells #[.int .i64 0, .int .i64 0] 2))
  have rB := rd_new (enc := Value.int .i64) (w.alloc (.cells #[.int .i64 3, .int .i64 (-5)] 2)) 2 [0, 0]
  rw [show (w.alloc (.cells #[.int .i64 3, .int .i64 (-5)] 2)).heap.size = w.heap.size + 1 by simp] at rB
  go_enter Tryz.func9, Tryz.ntmps9
  go_wp2_with fail
  refine (C1.out _ _ _ rA rB).mono ?_
  rintro _ w1 ⟨p, A1, c1, rfl, r1, r2, r3, hb1⟩
  have k1 : Below w.heap.size w w1 := Below.trans (by go_grown) (hb1.mono (by simp; omega))
  obtain ⟨bL, oL, x, eL, lL, ex, dL⟩ := r1.at_ (k := 0) (by decide)
  obtain ⟨AL, cL, AV, cV, AE, cE, AN, cN⟩ := p
  simp only at eL r2 r3
  have hx1 : x = 1 := by simpa using ex.symm
  subst eL hx1
  have HL := hid dL
  have HLl := hid lL
  have R2 := hid r2
  have R3 := hid r3
  clear rA rB C1 r1 r2 r3 ex hb1 dL lL
  have G2 := sg_up w1 (.cells #[.int .i64 1, .int .i64 2, .slice (some ⟨bL, oL, none⟩) 1 cL, .slice AV 1 cV, .int .i64 0, .int .i64 0, .slice AE 0 cE, .slice AN 0 cN] 32)
  have N2 := BoxL.new w1 [.int .i64 1, .int .i64 2, .slice (some ⟨bL, oL, none⟩) 1 cL, .slice AV 1 cV, .int .i64 0, .int .i64 0, .slice AE 0 cE, .slice AN 0 cN] 32
  simp only [List.toArray] at N2
  obtain ⟨w2, hw2⟩ : ∃ w2, w1.alloc (.cells #[.int .i64 1, .int .i64 2, .slice (some ⟨bL, oL, none⟩) 1 cL, .slice AV 1 cV, .int .i64 0, .int .i64 0, .slice AE 0 cE, .slice AN 0 cN] 32) = w2 := ⟨_, rfl⟩
  rw [hw2] at G2 N2
  have k2 : Below w.heap.size w w2 := k1.trans (G2.mono k1.size)
  have dL2 : w2.cell? ⟨bL, oL, none⟩ = some (.int .i64 1) := by rw [G2.cell (p := ⟨bL, oL, none⟩) HLl.out]; simpa using HL.out
  have Q2 := hid (R2.out.on G2)
  have Q3 := hid (R3.out.on G2)
  obtain ⟨⟨f0, f1, f2, f3, f4, f5, f6, f7⟩, _⟩ := N2.eight
  have HN := hid N2
  have hlt := N2.lt (by simp)
  clear G2 N2 R2 R3
  go_wp2_with fail
  refine (C3.out _ _ _ _ _ (Q2.out.on (sg_up _ _)) (rd_new (enc := Value.int .i64) w2 2 [-5])).mono ?_
  rintro _ w3 ⟨rfl, hb3⟩
  have Q4 := (Q3.out.on (sg_up w2 (.cells #[.int .i64 (-5)] 2))).on hb3
  have k3 : Below w.heap.size w w3 := (k2.trans ((sg_up w2 (.cells #[.int .i64 (-5)] 2)).mono k2.size)).trans (hb3.mono (by have := k2.size; simp; omega))
  clear f0 f1 f2 f3 f4 f5 f6 f7 dL2 hb3 Q2 Q3 HN
  go_wp2_with fail
  refine (C4.out _ _ _ _ _ (Q4.on (sg_up _ _)) (rd_new (enc := Value.int .i64) w3 2 [3, 0])).mono ?_
  rintro _ w4 ⟨rfl, hb4⟩
  go_wp2_with fail
  go_ret
  exact ⟨rfl, (k3.trans ((sg_up w3 (.cells #[.int .i64 3, .int .i64 0] 2)).mono k3.size)).trans (hb4.mono (by have := k3.size; simp; omega))⟩
/-- A vector that is short enough, or too long. -/
def shP (r : List Int) : Prop := r.length ≤ 200 ∨ (4096 < r.length ∧ r.length ≤ 5000)
instance (r : List Int) : Decidable (shP r) := by unfold shP; infer_instance
def fewP (n : Nat) (rows : List (List Int)) : Bool := rows.all (fun r => decide (shP r)) && (decide (n ≤ 50) && decide (rows.length ≤ 30))
theorem fewP_ok {n : Nat} {rows : List (List Int)} : fewP n rows = true ↔ (∀ r ∈ rows, shP r) ∧ n ≤ 50 ∧ rows.length ≤ 30 := by
  unfold fewP
  rw [Bool.and_eq_true, Bool.and_eq_true, List.all_eq_true, decide_eq_true_eq, decide_eq_true_eq]
  simp
theorem fewP_no {n : Nat} {rows : List (List Int)} {r : List Int} (hr : r ∈ rows) (h : ¬ shP r) : fewP n rows = false := Bool.eq_false_iff.2 (fun h2 => h ((fewP_ok.1 h2).1 r hr))
theorem shP_step {rows : List (List Int)} {k : Nat} {u : List Int} (hu : rows[k]? = some u) (hl : shP u) (h : ∀ r ∈ rows.take k, shP r) : ∀ r ∈ rows.take (k + 1), shP r := by
  intro r hr
  rw [List.take_add_one, hu] at hr
  rcases List.mem_append.1 hr with h2 | h2
  · exact h r h2
  · simp at h2; subst h2; exact hl
theorem pf_any (An : Option Addr) (n cn : Nat) (hn : n ≤ 9223372036854775807) (A : Option Addr) (c : Nat) (rows : List (List Int)) (hr : rows.length ≤ 9223372036854775807) (hu : ∀ u ∈ rows, u.length ≤ 9223372036854775807) (w : World) {B : Nat} (ra : RdRows w B A rows) :
    Calls Tryz.prog 10 #[.slice An n cn, .slice A rows.length c] w fun e w' => e = .returned (.bool (fewP n rows)) ∧ w = w' := by
  have RA := hid ra
  have HU := hid hu
  have HNO := hid (fun r hr h => fewP_no (n := n) (rows := rows) (r := r) hr h)
  have HOK := hid (fun (h : ∀ r ∈ rows, shP r) => show fewP n rows = (decide (n ≤ 50) && decide (rows.length ≤ 30)) by
    unfold fewP
    rw [List.all_eq_true.2 (fun r hr => decide_eq_true (h r hr)), Bool.true_and])
  obtain ⟨R, hR⟩ : ∃ R, fewP n rows = R := ⟨_, rfl⟩
  rw [hR] at HNO HOK ⊢
  clear ra hu hR
  go_enter Tryz.func10, Tryz.ntmps10
  go_wp2_with fail
  go_loopw [6, 9] (fun x6 i wr => ∃ k : Nat, k ≤ rows.length ∧ i = .int .i64 k ∧ (∀ r ∈ rows.take k, shP r) ∧ w = wr) (fun _ i _ => rows.length - (intOf i).toNat)
  case atStart => exact ⟨0, by omega, rfl, by simp, rfl⟩
  case round =>
    obtain ⟨k, hk, rfl, hs, rfl⟩ := hrel
    have HS := hid hs
    clear hs
    by_cases hlt : k < rows.length
    · obtain ⟨u, hu⟩ : ∃ u, rows[k]? = some u := ⟨_, List.getElem?_eq_getElem hlt⟩
      obtain ⟨b, off, A3, c3, rfl, l3, hc3, hr3⟩ := RA.out k u hu
      have lu := HU.out u (List.mem_of_getElem? hu)
      have HX := hid hu
      have HM := hid (List.mem_of_getElem? hu)
      clear hr3 hu
      by_cases h1 : (u.length : Int) > 200
      · by_cases h2 : (u.length : Int) ≤ 4096
        · have hF := HNO.out u HM.out (by unfold shP; omega)
          subst hF
          go_wp2_with fail
          go_ret
          exact ⟨rfl, rfl⟩
        · by_cases h3 : (u.length : Int) > 5000
          · have hF := HNO.out u HM.out (by unfold shP; omega)
            subst hF
            go_wp2_with fail
            go_ret
            exact ⟨rfl, rfl⟩
          · have HL := hid (show shP u by unfold shP; omega)
            go_wp2_with fail
            go_roundw
            case rel => exact ⟨k + 1, by omega, by go_num, shP_step HX.out HL.out HS.out, by trivial⟩
            case measure => simp [intOf]; omega
      · have HL := hid (show shP u by unfold shP; omega)
        go_wp2_with fail
        go_roundw
        case rel => exact ⟨k + 1, by omega, by go_num, shP_step HX.out HL.out HS.out, by trivial⟩
        case measure => simp [intOf]; omega
    · obtain rfl : k = rows.length := by omega
      have hF := HOK.out (by have h := HS.out; rw [List.take_of_length_le (Nat.le_refl _)] at h; exact h)
      have HF := hid hF
      clear hF HOK HNO
      by_cases h5 : (n : Int) ≤ 50
      · go_wp2_with fail
        go_ret
        refine ⟨?_, rfl⟩
        rw [HF.out, decide_eq_true (show n ≤ 50 by omega), Bool.true_and, show decide ((rows.length : Int) ≤ 30) = decide (rows.length ≤ 30) from decide_eq_decide.2 (by omega)]
        rfl
      · go_wp2_with fail
        go_ret
        refine ⟨?_, rfl⟩
        rw [HF.out, decide_eq_false (show ¬ n ≤ 50 by omega), Bool.false_and]
        rfl
theorem pf_one {A : Option Addr} {c : Nat} (An : Option Addr) (n cn : Nat) (hn : n ≤ 9223372036854775807) (xs : List Int) (hx : xs.length ≤ 9223372036854775807) (W : World) (ra : Rd (Value.int .i64) W W.heap.size A xs) :
    Calls Tryz.prog 10 #[.slice An n cn, .slice (some ⟨W.heap.size, 0, none⟩) 1 1] (W.alloc (.cells #[.slice A xs.length c] 24)) fun e w' => e = .returned (.bool (fewP n [xs])) ∧ W.alloc (.cells #[.slice A xs.length c] 24) = w' :=
  pf_any An n cn hn _ 1 [xs] (by simp) (fun u hu => by
    simp only [List.mem_cons, List.not_mem_nil, or_false] at hu
    subst hu; assumption) _ (rows_one xs W ra _)
end Go.Proofs.YtecgbelgoomneaaGreat
