
/- The program's numbers packed and woven, and signs. -/
import Derived.Test.YtgkkliibeiklbaaPlR
namespace Go.Proofs.Ytgkkliibeiklbaa
open Go.RowKit
set_option maxHeartbeats 400000
set_option linter.unusedVariables false
theorem pl_side (v : Int) (w : World) :
    Calls Try.prog 49 #[.int .i64 v] w fun e w' => e = .returned (.func (.func 60) #[] #[.pointer (some ⟨w.heap.size, 0, none⟩)]) ∧ w'.cell? ⟨w.heap.size, 0, none⟩ = some (.int .i64 v) ∧ w.heap.size < w'.heap.size ∧ Below w.heap.size w w' := by
  have hb := one_cell w (.int .i64 v) 3
  have HB := hid hb
  clear hb
  go_enter Try.func49, Try.ntmps49
  go_wp2_with fail
  go_ret
  exact ⟨rfl, HB.out.1, by simp [go_sem], HB.out.2⟩
theorem pl_planes (v : Int) (w : World) :
    Calls Try.prog 52 #[.int .i64 v] w fun e w' => e = .returned (.func (.func 61) #[] #[.pointer (some ⟨w.heap.size, 0, none⟩)]) ∧ w'.cell? ⟨w.heap.size, 0, none⟩ = some (.int .i64 v) ∧ w.heap.size < w'.heap.size ∧ Below w.heap.size w w' := by
  have hb := one_cell w (.int .i64 v) 3
  have HB := hid hb
  clear hb
  go_enter Try.func52, Try.ntmps52
  go_wp2_with fail
  go_ret
  exact ⟨rfl, HB.out.1, by simp [go_sem], HB.out.2⟩
theorem place_few {i j k m : Nat} (hi : i < m) (hj : j < k) (hk : k ≤ 32) (hm : m ≤ 4096) : i * k + j ≤ 1000000 := by
  have h := place_lt hi hj
  have := Nat.mul_le_mul hk hm
  omega
theorem few_place {i j k m : Nat} (hi : i < m) (hj : j < k) (hk : k ≤ 32) (hm : m ≤ 4096) : j * m + i ≤ 1000000 := by
  have h := place_lt (w := m) (m := k) hj hi
  have := Nat.mul_le_mul hm hk
  omega
theorem pl_Pack {A : Option Addr} {c : Nat} (wd : Int) (l : List Int) (hw : I64 wd) (hl : l.length ≤ 100000) (ul : U64s l) (w : World) (ra : Rd (Value.int .u64) w w.heap.size A l) :
    Calls Try.prog 26 #[.int .i64 wd, .slice A l.length c] w (OwnE 5 .u8 w.heap.size (pckV wd l) (mayE wd l) w) := by
  have CW : Hid (∀ w1 : World, w1.cell? ⟨w.heap.size, 0, none⟩ = some (.int .i64 wd) → w.heap.size < w1.heap.size → Below w.heap.size w w1 →
      Calls Try.prog 48 #[.int .i64 wd, .slice A l.length c, .func (.func 60) #[] #[.pointer (some ⟨w.heap.size, 0, none⟩)]] w1 (OwnE 5 .u8 w1.heap.size (pckV wd l) (mayE wd l) w1)) := hid (fun w1 hc hlt hb => by
    refine pl_write (A := A) (c := c) 60 _ wd l hw hl ul w1 (ra.on hb) (cl_enter _ (by kernel_rfl)) (sdF wd.toNat l) _ _ _ (places_side _ _) (fun i j x hx hj => by rw [sd_at hj, getD_of hx]) (fun hm i j hi hj W hW => ?_)
    obtain ⟨k, rfl, hk, h1, h2⟩ := may_nat hm ul
    have h4 := (bys_ok h1).2.2
    rw [Int.toNat_natCast] at hj ⊢
    exact side_cl ((hW.cell (p := ⟨w.heap.size, 0, none⟩) hlt).trans hc) rfl (place_few hi hj hk (by omega)))
  obtain ⟨X, hX⟩ : ∃ X, pckV wd l = X := ⟨_, rfl⟩
  obtain ⟨E, hE⟩ : ∃ E, mayE wd l = E := ⟨_, rfl⟩
  rw [hX, hE] at CW ⊢
  have CS := hid (pl_side wd w)
  clear hX hE ra ul
  go_enter Try.func26, Try.ntmps26
  go_wp2_with fail
  refine CS.out.mono ?_
  rintro _ w1 ⟨rfl, hc1, hlt1, hb1⟩
  have CW1 := hid (CW.out w1 hc1 hlt1 hb1)
  clear hc1 hlt1
  go_wp2_with fail
  refine CW1.out.mono ?_
  rintro _ w2 ⟨A2, c2, rfl, ho, hb2⟩
  have HO := hid (own_base ho hb1.size)
  clear ho
  go_wp2_with fail
  go_ret2
  exact ⟨A2, c2, rfl, HO.out, hb1.trans (hb2.mono hb1.size)⟩
theorem pl_Weave {A : Option Addr} {c : Nat} (wd : Int) (l : List Int) (hw : I64 wd) (hl : l.length ≤ 100000) (ul : U64s l) (w : World) (ra : Rd (Value.int .u64) w w.heap.size A l) :
    Calls Try.prog 28 #[.int .i64 wd, .slice A l.length c] w (OwnE 5 .u8 w.heap.size (wevV wd l) (mayE wd l) w) := by
  have CW : Hid (∀ w1 : World, w1.cell? ⟨w.heap.size, 0, none⟩ = some (.int .i64 (l.length : Int)) → w.heap.size < w1.heap.size → Below w.heap.size w w1 →
      Calls Try.prog 48 #[.int .i64 wd, .slice A l.length c, .func (.func 61) #[] #[.pointer (some ⟨w.heap.size, 0, none⟩)]] w1 (OwnE 5 .u8 w1.heap.size (wevV wd l) (mayE wd l) w1)) := hid (fun w1 hc hlt hb => by
    refine pl_write (A := A) (c := c) 61 _ wd l hw hl ul w1 (ra.on hb) (cl_enter _ (by kernel_rfl)) (plF wd.toNat l) _ _ _ (places_plane _ _) (fun i j x hx hj => by rw [pl_at ((List.getElem?_eq_some_iff.1 hx).1), getD_of hx]) (fun hm i j hi hj W hW => ?_)
    obtain ⟨k, rfl, hk, h1, h2⟩ := may_nat hm ul
    have h4 := (bys_ok h1).2.2
    rw [Int.toNat_natCast] at hj
    exact plane_cl ((hW.cell (p := ⟨w.heap.size, 0, none⟩) hlt).trans hc) rfl (few_place hi hj hk (by omega)))
  obtain ⟨X, hX⟩ : ∃ X, wevV wd l = X := ⟨_, rfl⟩
  obtain ⟨E, hE⟩ : ∃ E, mayE wd l = E := ⟨_, rfl⟩
  rw [hX, hE] at CW ⊢
  have CS := hid (pl_planes l.length w)
  clear hX hE ra ul
  go_enter Try.func28, Try.ntmps28
  go_wp2_with fail
  refine CS.out.mono ?_
  rintro _ w1 ⟨rfl, hc1, hlt1, hb1⟩
  have CW1 := hid (CW.out w1 hc1 hlt1 hb1)
  clear hc1 hlt1
  go_wp2_with fail
  refine CW1.out.mono ?_
  rintro _ w2 ⟨A2, c2, rfl, ho, hb2⟩
  have HO := hid (own_base ho hb1.size)
  clear ho
  go_wp2_with fail
  go_ret2
  exact ⟨A2, c2, rfl, HO.out, hb1.trans (hb2.mono hb1.size)⟩
/-- Signs as numbers. -/
theorem b2_u64 (bs : List Bool) : U64s (bs.map b2) := by
  intro x hx
  obtain ⟨v, _, rfl⟩ := List.mem_map.1 hx
  cases v <;> decide
theorem wdt_b2 (v : Bool) : wdt (b2 v) ≤ 1 := by cases v <;> decide
theorem sgn_may {bs : List Bool} (h : bs.length ≤ 4096) : mayE 1 (bs.map b2) = 0 := by
  unfold mayE
  rw [List.length_map]
  have h1 : bysE 1 (bs.length : Int) = 0 := by unfold bysE; rw [if_neg (by omega), if_neg (by omega)]
  rw [if_pos h1, if_pos]
  unfold fitsB
  rw [List.all_eq_true]
  intro x hx
  obtain ⟨v, _, rfl⟩ := List.mem_map.1 hx
  have := wdt_b2 v
  exact decide_eq_true (by omega)
theorem sgn_pck {bs : List Bool} (h : bs.length ≤ 4096) : pckV 1 (bs.map b2) = sgnV bs := by
  unfold pckV sgnV
  rw [if_pos (sgn_may h), if_neg (by omega), List.length_map]
  rw [show (1 : Int).toNat = 1 from rfl, Nat.one_mul]
  refine pkL_congr fun p hp => ?_
  unfold sdF
  rw [Nat.div_one, Nat.mod_one, List.getD_eq_getElem?_getD, List.getElem?_map, List.getD_eq_getElem?_getD, List.getElem?_eq_getElem hp, Option.map_some, Option.getD_some, Option.getD_some]
  cases bs[p] <;> decide
theorem pl_Signs {A : Option Addr} {c : Nat} (bs : List Bool) (hl : bs.length ≤ 1000000) (w : World) (ra : Rd Value.bool w w.heap.size A bs) :
    Calls Try.prog 30 #[.slice A bs.length c] w (OwnE 5 .u8 w.heap.size (sgnV bs) (sgnE bs) w) := by
  have CB := hid (fun W => pl_Bytes 1 bs.length (by decide) (by unfold I64; omega) W)
  by_cases h : 4096 < bs.length
  · have h1 : bysE 1 (bs.length : Int) = 3 := by unfold bysE; rw [if_neg (by omega), if_pos (by omega)]
    have h2 : sgnV bs = [] := if_pos h
    have h3 : sgnE bs = 3 := if_pos h
    rw [h1] at CB
    rw [h2, h3]
    obtain ⟨V, hV⟩ : ∃ V, bysV 1 (bs.length : Int) = V := ⟨_, rfl⟩
    rw [hV] at CB
    clear h1 h2 h3 hV ra
    go_enter Try.func30, Try.ntmps30
    go_wp2_with fail
    refine (CB.out _).mono ?_
    rintro _ _ ⟨rfl, rfl⟩
    go_wp2_with fail
    go_ret2
    exact .nil (Below.refl _ _)
  · have h1 : bysE 1 (bs.length : Int) = 0 := by unfold bysE; rw [if_neg (by omega), if_neg (by omega)]
    have h3 : sgnE bs = 0 := if_neg h
    rw [h1] at CB
    rw [h3]
    obtain ⟨V, hV⟩ : ∃ V, bysV 1 (bs.length : Int) = V := ⟨_, rfl⟩
    rw [hV] at CB
    have CP : Hid (∀ w1 : World, w1.rowIs w.heap.size 43 bs.length (fun j => .int .u64 (b2 (bs.getD j false))) → Calls Try.prog 26 #[.int .i64 1, .slice (some ⟨w.heap.size, 0, none⟩) bs.length bs.length] w1 (OwnE 5 .u8 w1.heap.size (sgnV bs) 0 w1)) := hid (fun w1 hr => by
      have h := pl_Pack (A := some ⟨w.heap.size, 0, none⟩) (c := bs.length) 1 (bs.map b2) (by decide) (by rw [List.length_map]; omega) (b2_u64 bs) w1 (by
        intro j x hx
        refine ⟨w.heap.size, 0, rfl, hr.lt, ?_⟩
        have hj := (List.getElem?_eq_some_iff.1 hx).1
        rw [List.length_map] at hj
        rw [Nat.zero_add, hr.cell hj]
        rw [List.getElem?_map, List.getElem?_eq_getElem hj, Option.map_some] at hx
        injection hx with hx
        rw [← hx, List.getD_eq_getElem?_getD, List.getElem?_eq_getElem hj, Option.getD_some])
      rw [List.length_map, sgn_pck (by omega), sgn_may (by omega)] at h
      exact h)
    obtain ⟨X, hX⟩ : ∃ X, sgnV bs = X := ⟨_, rfl⟩
    rw [hX] at CP ⊢
    have HG : Hid (∀ k x, bs[k]? = some x → bs.getD k false = x) := hid (fun k x hx => by rw [List.getD_eq_getElem?_getD, hx]; rfl)
    obtain ⟨g, hg⟩ : ∃ g : Nat → Bool, (fun j => bs.getD j false) = g := ⟨_, rfl⟩
    have hg' : ∀ j, bs.getD j false = g j := fun j => by rw [← hg]
    simp only [hg'] at CP HG
    have RA := hid ra
    obtain ⟨N, hN⟩ : ∃ N, bs.length = N := ⟨_, rfl⟩
    have HN := hid hN
    rw [hN] at CB CP hl h ⊢
    have hmk := fun W => run_make_row' (P := Try.prog) 37 43 (.int .u64 0) 8 Try.underlying37 info_u64 rfl .i64 .i64 N (by omega) (by omega) W
    clear h1 h3 hV hX hg hg' ra hN
    go_enter Try.func30, Try.ntmps30
    go_wp2_with fail
    refine (CB.out _).mono ?_
    rintro _ _ ⟨rfl, rfl⟩
    go_wp2_with fail
    go_loopw [7, 8, 23] (fun a b i wr => ∃ k : Nat, k ≤ N ∧ i = .int .i64 k ∧ wr.rowIs w.heap.size 43 N (fun j => if j < k then .int .u64 (b2 (g j)) else .int .u64 0) ∧ Below w.heap.size w wr) (fun _ _ i _ => N - (intOf i).toNat)
    case atStart => exact ⟨0, by omega, rfl, by simpa using World.rowIs_made w (.int .u64 0) N _, by go_grown⟩
    case round =>
      obtain ⟨k, hk, rfl, hrow, hbel⟩ := hrel
      have HR := hid hrow
      clear hmk
      by_cases hlt : k < N
      · obtain ⟨b1, o1, x, rfl, l1, ex, c1⟩ := (RA.out.below hbel).at_ (k := k) (by rw [HN.out]; exact hlt)
        have hgk := HG.out k x ex
        have f1 := hrow.frozen k
        have c2 := hrow.cell hlt
        rw [if_neg (Nat.lt_irrefl k)] at c2
        have HGk := hid hgk
        clear ex hgk hrow
        cases x with
        | false =>
          go_wp2_with fail
          go_roundw
          case rel =>
            refine ⟨k + 1, by omega, by go_num, HR.out.congr fun j hj => ?_, hbel⟩
            by_cases e : j = k
            · rw [e, if_neg (Nat.lt_irrefl k), if_pos (by omega), HGk.out]; rfl
            · by_cases e2 : j < k
              · rw [if_pos e2, if_pos (by omega)]
              · rw [if_neg e2, if_neg (by omega)]
          case measure => simp [intOf]; omega
        | true =>
          go_wp2_with fail
          go_roundw
          case rel =>
            refine ⟨k + 1, by omega, by go_num, ?_, hbel.setCell (Nat.le_refl _) _⟩
            refine (HR.out.set k (.int .u64 1)).congr fun j hj => ?_
            by_cases e : j = k
            · rw [if_pos e, e, if_pos (by omega), HGk.out]; rfl
            · rw [if_neg e]
              by_cases e2 : j < k
              · rw [if_pos e2, if_pos (by omega)]
              · rw [if_neg e2, if_neg (by omega)]
          case measure => simp [intOf]; omega
      · obtain rfl : k = N := by omega
        have CP1 := hid (CP.out wr (HR.out.congr fun j hj => by rw [if_pos hj]))
        clear hrow HR
        go_wp2_with fail
        refine CP1.out.mono ?_
        rintro _ w2 ⟨A2, c2, rfl, ho, hb2⟩
        have HO := hid (own_base ho hbel.size)
        clear ho
        go_wp2_with fail
        go_ret2
        exact ⟨A2, c2, rfl, HO.out, hbel.trans (hb2.mono hbel.size)⟩
end Go.Proofs.Ytgkkliibeiklbaa
