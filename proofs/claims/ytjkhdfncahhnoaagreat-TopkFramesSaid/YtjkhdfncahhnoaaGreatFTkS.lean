
/- FTkS: texts joined: TkS. -/
import Derived.Test.YtjkhdfncahhnoaaGreatFf
import Derived.Test.YtjkhdfncahhnoaaGreatFe
/- The program's calls: Least, Press, Is. -/
namespace Go.Proofs.YtjkhdfncahhnoaaGreat
open Go.RowKit
set_option maxHeartbeats 400000
set_option maxRecDepth 100000
set_option linter.unusedVariables false
theorem tk_Least {A B : Option Addr} {c d : Nat} (l v : List Int) (uv : ∀ x ∈ v, I64 x) (hll : l.length ≤ 5000) (hl : v.length ≤ 5000) (w : World) (ra : Rd (Value.int .i64) w w.heap.size A l) (rb : Rd (Value.int .i64) w w.heap.size B v) :
    Calls Tryz.prog 13 #[.slice A l.length c, .slice B v.length d] w fun e w' => e = .returned (.tuple #[.int .u64 ((lstR l v).1 : Int), .bool (lstR l v).2]) ∧ Below w.heap.size w w' := by
  have HA := hid ra
  have HB := hid rb
  have UV := hid uv
  have HS := hid (fun k n h => lst_snoc (l := l) (k := k) (n := n) v h)
  have HE : Hid (lstR (l.take l.length) v = lstR l v) := hid (by rw [List.take_length])
  have H0 : Hid (lstR (l.take 0) v = (0, false)) := rfl
  have HBd := hid (fun k => lst_bound uv (l.take k) (0, false) (by simp))
  clear ra rb uv
  go_enter Tryz.func13, Tryz.ntmps13
  go_wp2_with fail
  go_loop [6, 7, 9, 10, 13] (fun x6 x7 x9 x10 i => ∃ k : Nat, k ≤ l.length ∧ i = .int .i64 k ∧ x6 = .int .u64 ((lstR (l.take k) v).1 : Int) ∧ x7 = .bool (lstR (l.take k) v).2) (fun _ _ _ _ i => l.length - (intOf i).toNat)
  case atStart => exact ⟨0, by omega, rfl, by rw [H0.out]; rfl, by rw [H0.out]⟩
  case round =>
    obtain ⟨k, hk, rfl, rfl, rfl⟩ := hrel
    by_cases hlt : k < l.length
    · obtain ⟨b1, o1, n, rfl, l1, en, c1⟩ := HA.out.at_ hlt
      have HSn := hid (HS.out k n en)
      have HBk : Hid ((lstR (l.take k) v).1 ≤ 9223372036854775808) := hid (HBd.out k)
      obtain ⟨⟨a, s⟩, ha⟩ : ∃ a, lstR (l.take k) v = a := ⟨_, rfl⟩
      rw [ha] at HSn HBk ⊢
      simp only at HBk ⊢
      have hbk := HBk.out
      clear en ha
      by_cases h1 : n < 0
      · have HR : Hid (lstR (l.take (k + 1)) v = (a, s)) := hid (by rw [HSn.out]; unfold lsS; rw [if_pos (by omega)])
        go_wp2_with fail
        go_round
        case rel => exact ⟨k + 1, by omega, by go_num, by rw [HR.out], by rw [HR.out]⟩
        case measure => simp [intOf]; omega
      · by_cases h2 : n ≥ (v.length : Int)
        · have HR : Hid (lstR (l.take (k + 1)) v = (a, s)) := hid (by rw [HSn.out]; unfold lsS; rw [if_pos (by omega)])
          go_wp2_with fail
          go_round
          case rel => exact ⟨k + 1, by omega, by go_num, by rw [HR.out], by rw [HR.out]⟩
          case measure => simp [intOf]; omega
        · obtain ⟨m, rfl⟩ := Int.eq_ofNat_of_zero_le (show 0 ≤ n by omega)
          have hm : m < v.length := by omega
          obtain ⟨b2, o2, x, rfl, l2, ex, c2⟩ := HB.out.at_ hm
          have hx := UV.out x (List.mem_of_getElem? ex)
          have CS := hid (hp_size x hx w)
          have HG : Hid (lstR (l.take (k + 1)) v = if s = false ∨ szN x < a then (szN x, true) else (a, s)) := hid (by
            rw [HSn.out]
            unfold lsS
            rw [if_neg (by omega), Int.toNat_natCast, getD_of ex])
          have hsz := szN_le hx
          obtain ⟨z, hz⟩ : ∃ z, szN x = z := ⟨_, rfl⟩
          rw [hz] at CS HG hsz
          clear ex hx hz HSn
          cases s with
          | false =>
            have HR : Hid (lstR (l.take (k + 1)) v = (z, true)) := hid (by rw [HG.out, if_pos (.inl rfl)])
            clear HG
            go_wp2_with fail
            refine CS.out.mono ?_
            rintro _ _ ⟨rfl, rfl⟩
            go_wp2_with fail
            go_round
            case rel => exact ⟨k + 1, by omega, by go_num, by rw [HR.out], by rw [HR.out]⟩
            case measure => simp [intOf]; omega
          | true =>
            by_cases h3 : z < a
            · have HR : Hid (lstR (l.take (k + 1)) v = (z, true)) := hid (by rw [HG.out, if_pos (.inr h3)])
              clear HG
              have h3' : (z : Int) < (a : Int) := by omega
              go_wp2_with fail
              refine CS.out.mono ?_
              rintro _ _ ⟨rfl, rfl⟩
              go_wp2_with fail
              go_round
              case rel => exact ⟨k + 1, by omega, by go_num, by rw [HR.out], by rw [HR.out]⟩
              case measure => simp [intOf]; omega
            · have HR : Hid (lstR (l.take (k + 1)) v = (a, true)) := hid (by rw [HG.out, if_neg (by simp; omega)])
              clear HG
              have h3' : ¬ ((z : Int) < (a : Int)) := by omega
              go_wp2_with fail
              refine CS.out.mono ?_
              rintro _ _ ⟨rfl, rfl⟩
              go_wp2_with fail
              go_round
              case rel => exact ⟨k + 1, by omega, by go_num, by rw [HR.out], by rw [HR.out]⟩
              case measure => simp [intOf]; omega
    · obtain rfl : k = l.length := by omega
      rw [HE.out]
      go_wp2_with fail
      go_ret2
      exact ⟨rfl, Below.refl _ _⟩
set_option maxHeartbeats 1000000 in
theorem tk_Press {A : Option Addr} {c : Nat} (k : Int) (hk : I64 k) (v : List Int) (uv : ∀ x ∈ v, I64 x) (hl : v.length ≤ 5000) (w : World) (ra : Rd (Value.int .i64) w w.heap.size A v) :
    Calls Tryz.prog 6 #[.int .i64 k, .slice A v.length c] w (OwnSt w.heap.size (prsS v k) (prsE v k) w) := by
  by_cases h0 : v = []
  · have he : prsE v k = 1 := if_pos h0
    have hs : prsS v k = zeroS := if_neg (by rw [he]; decide)
    rw [he, hs]
    subst h0
    clear he hs ra uv hl
    go_enter Tryz.func6, Tryz.ntmps6
    go_wp2_with fail
    refine bodyPost_ret (v := .tuple #[encT zeroS zeroP, .int .i64 1]) (by simp [results, Tryz.results6, go_sem, zeroS, zeroP]) rfl ⟨none, 0, none, 0, rfl, rfl, rfl, own_nil _ _ _, own_nil _ _ _, by go_grown⟩
  · have h0' : ¬ v.length = 0 := fun h => h0 (List.length_eq_zero_iff.1 h)
    have hp : prsE v k = pikE v k := if_neg h0
    have CP := hid (fun (W : World) (h : Below w.heap.size w W) => tk_Pick (A := A) (c := c) k hk v uv hl W (ra.on h))
    have RA := hid ra
    have h1' : ((v.length : Int) == 0) = false := beq_eq_false_iff_ne.2 (by omega)
    have h1'' : (v.length == 0) = false := beq_eq_false_iff_ne.2 h0'
    by_cases h : pikE v k = 0
    · have hs : prsS v k = ⟨1, v.length, pikV v k, atL v (pikV v k), 0, 0, [], []⟩ := if_pos (by rw [hp]; exact h)
      obtain ⟨_, _, hgE, hgV, _, _⟩ := prs_may uv h0 h
      have hLl := pikV_le v k
      rw [hp, hs, h]
      rw [hs] at hgE hgV
      rw [h] at CP
      simp only at hgE hgV
      obtain ⟨L, hL⟩ : ∃ L, pikV v k = L := ⟨_, rfl⟩
      rw [hL] at CP hgE hgV hLl ⊢
      have CG := hid (fun (A1 : Option Addr) (c1 : Nat) (W : World) (h1 : Rd (Value.int .i64) W W.heap.size A1 L) (h2 : Rd (Value.int .i64) W W.heap.size A v) => ix_Gather (A := A1) (B := A) (c := c1) (d := c) L v (by omega) (by omega) W h1 h2)
      rw [hgE, hgV] at CG
      obtain ⟨S, hS⟩ : ∃ S, atL v L = S := ⟨_, rfl⟩
      rw [hS] at CG ⊢
      clear hs hL hS hp h0 uv h h0' ra hgE hgV
      go_enter Tryz.func6, Tryz.ntmps6
      go_wp2_with fail
      have B0 := BoxL.new w [.int .i64 0, .int .i64 0, .slice none 0 0, .slice none 0 0, .int .i64 0, .int .i64 0, .slice none 0 0, .slice none 0 0] 29
      refine (CP.out _ (by go_grown)).mono ?_
      rintro _ w1 ⟨A1, c1, rfl, ho1, hb⟩
      have HB1 := hid (B0.below hb (by simp))
      have k1 : Below w.heap.size w w1 := Below.trans (by go_grown) (hb.mono (by simp))
      have hg1 : w.heap.size < w1.heap.size := by have := hb.size; simp at this; omega
      have HO1 := hid (own_base ho1 (show w.heap.size + 1 ≤ _ by simp))
      have HR1 := hid (own_rd ho1)
      clear B0 hb CP ho1
      go_wp2_with fail
      refine (CG.out A1 c1 w1 HR1.out (RA.out.on k1)).mono ?_
      rintro _ w2 ⟨A2, c2, rfl, ho2, hb2⟩
      have HB2 := hid (HB1.out.below hb2 hg1)
      have HOL := hid (own_on HO1.out hb2)
      have HO := hid ho2
      have kw := k1.trans (hb2.mono k1.size)
      obtain ⟨⟨g0, g1, g2, g3, g4, g5, g6, g7⟩, n0, n1, n2, n3, n4, n5, n6, n7⟩ := HB2.out.eight
      clear HB1 HO1 HR1 CG ho2 hb2 k1
      go_wp2_with fail
      refine bodyPost_ret (v := .tuple #[encT ⟨1, v.length, L, S, 0, 0, [], []⟩ ⟨A1, c1, A2, c2, none, 0, none, 0⟩, .int .i64 0]) (by simp [results, Tryz.results6, go_sem, g0, g1, g2, g3, g4, g5, g6, g7]) rfl ?_
      refine ⟨A1, c1, A2, c2, rfl, rfl, rfl, ?_, ?_, ?_⟩
      · exact own_base (own_set (own_set (own_set (own_set (own_set (own_set (own_set (own_set HOL.out (by simp) _) (by simp) _) (by simp) _) (by simp) _) (by simp) _) (by simp) _) (by simp) _) (by simp) _) (Nat.le_succ _)
      · exact own_base (own_set (own_set (own_set (own_set (own_set (own_set (own_set (own_set HO.out hg1 _) hg1 _) hg1 _) hg1 _) hg1 _) hg1 _) hg1 _) hg1 _) (by omega)
      · exact (((((((kw.setCell (by simp) _).setCell (by simp) _).setCell (by simp) _).setCell (by simp) _).setCell (by simp) _).setCell (by simp) _).setCell (by simp) _).setCell (by simp) _
    · have he : prsS v k = zeroS := if_neg (by rw [hp]; exact h)
      have hv : pikV v k = [] := if_neg h
      rw [he, hp]
      rw [hv] at CP
      obtain ⟨E, hE⟩ : ∃ E, pikE v k = E := ⟨_, rfl⟩
      rw [hE] at CP h ⊢
      have hne : (E != 0) = true := by simpa using h
      clear he hv hE hp h0 ra uv h h0'
      go_enter Tryz.func6, Tryz.ntmps6
      go_wp2_with fail
      have B0 := BoxL.new w [.int .i64 0, .int .i64 0, .slice none 0 0, .slice none 0 0, .int .i64 0, .int .i64 0, .slice none 0 0, .slice none 0 0] 29
      refine (CP.out _ (by go_grown)).mono ?_
      rintro _ w1 ⟨A1, c1, rfl, _, hb⟩
      have B1 := B0.below hb (by simp)
      have k1 : Below w.heap.size w w1 := Below.trans (by go_grown) (hb.mono (by simp))
      obtain ⟨⟨g0, g1, g2, g3, g4, g5, g6, g7⟩, n0, n1, n2, n3, n4, n5, n6, n7⟩ := B1.eight
      clear B0 B1 hb CP
      go_wp2_with fail
      refine bodyPost_ret (v := .tuple #[encT zeroS zeroP, .int .i64 E]) (by simp [results, Tryz.results6, go_sem, zeroS, zeroP, g0, g1, g2, g3, g4, g5, g6, g7]) rfl ⟨none, 0, none, 0, rfl, rfl, rfl, own_nil _ _ _, own_nil _ _ _, ?_⟩
      exact (((((((k1.setCell (by simp) _).setCell (by simp) _).setCell (by simp) _).setCell (by simp) _).setCell (by simp) _).setCell (by simp) _).setCell (by simp) _).setCell (by simp) _
theorem same_turn (a b : SentV) : sameS a b = sameS b a := by
  rw [Bool.eq_iff_iff, sameS_iff, sameS_iff]
  exact eq_comm
end Go.Proofs.YtjkhdfncahhnoaaGreat
