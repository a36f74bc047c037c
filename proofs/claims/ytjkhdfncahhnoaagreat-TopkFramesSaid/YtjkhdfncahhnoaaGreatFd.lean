
/- Fd: texts joined: IxE PlS TkB TkO. -/
import Derived.Test.YtjkhdfncahhnoaaGreatFIxC
import Derived.Test.YtjkhdfncahhnoaaGreatFPlR
import Derived.Test.YtjkhdfncahhnoaaGreatFc
import Derived.Test.YtjkhdfncahhnoaaGreatFa
/- What is told the same; lists just laid. -/
namespace Go.Proofs.YtjkhdfncahhnoaaGreat
open Go.RowKit
set_option maxHeartbeats 400000
set_option maxRecDepth 100000
set_option linter.unusedVariables false
/-- Places told, where they end, an error, named one by one. -/
def OwnX (xs : List Int) (a er : Int) (w : World) (e : Ending) (w' : World) : Prop :=
  ∃ A c, e = .returned (.tuple #[.slice A xs.length c, .int .i64 a, .int .i64 er]) ∧ w'.ownsRow w.heap.size 3 1 (.slice A xs.length c) xs.length (xs.map (Value.int .i64)) ∧ Below w.heap.size w w'
theorem put_live : pixV 9 [1, 2, 5] = [3, 1, 0, 2] ∧ chkE 9 [1, 2, 5] = 0 := by
  have h : chkE 9 [1, 2, 5] = 0 := by decide
  refine ⟨?_, h⟩
  unfold pixV
  rw [if_pos h]
  show encs [3, 1, 0, 2] = _
  simp [encs, lebI_last]
theorem get_live : gixR 9 [3, 1, 0, 2] 0 = ([1, 2, 5], 4, 0) := by decide
theorem rd_three (w : World) (t : TypeId) (a b c : Int) : Rd (Value.int .i64) (w.alloc (.cells #[.int .i64 a, .int .i64 b, .int .i64 c] t)) (w.alloc (.cells #[.int .i64 a, .int .i64 b, .int .i64 c] t)).heap.size (some ⟨w.heap.size, 0, none⟩) [a, b, c] := rd_new w t [a, b, c]
theorem rd_four8 (w : World) (t : TypeId) (a b c d : Int) : Rd (Value.int .u8) (w.alloc (.cells #[.int .u8 a, .int .u8 b, .int .u8 c, .int .u8 d] t)) (w.alloc (.cells #[.int .u8 a, .int .u8 b, .int .u8 c, .int .u8 d] t)).heap.size (some ⟨w.heap.size, 0, none⟩) [a, b, c, d] := rd_new w t [a, b, c, d]
/-- Equal lists are found so. -/
theorem equal_yes {X : List Int} (hx : X.length ≤ 9223372036854775807) {A B : Option Addr} {c d : Nat} (W : World) {L M : Nat} (h1 : Rd (Value.int .i64) W L A X) (h2 : Rd (Value.int .i64) W M B X) :
    Calls Tryz.prog 14 #[.slice A X.length c, .slice B X.length d] W fun e w' => e = .returned (.bool true) ∧ Below W.heap.size W w' := by
  have h := ref_Equal (A := A) (B := B) (c := c) (d := d) X X hx hx W h1 h2
  rw [eqB_self] at h
  exact h.mono fun _ _ ⟨h1, n, h2⟩ => ⟨h1, by rw [h2]; exact belowN _ _ _⟩
theorem grow (w : World) (o : Obj) : Below w.heap.size w (w.alloc o) := (Below.refl _ _).alloc (Nat.le_refl _) _
theorem ref_Same64 {A B : Option Addr} {c d : Nat} (xs ys : List Int) (hx : xs.length ≤ 9223372036854775807) (hy : ys.length ≤ 9223372036854775807) (w : World) {L M : Nat}
    (ra : Rd (Value.int .i64) w L A xs) (rb : Rd (Value.int .i64) w M B ys) :
    Calls Tryz.prog 26 #[.slice A xs.length c, .slice B ys.length d] w fun e w' => e = .returned (.bool (eqB xs ys)) ∧ ∃ n, w' = w.drewN n := by
  by_cases hl : xs.length = ys.length
  · have HA := hid ra
    have HB := hid rb
    clear ra rb
    have h1 : ((xs.length : Int) != (ys.length : Int)) = false := by simp; omega
    have h2 : (xs.length != ys.length) = false := by simp; omega
    have HL := hid hl
    clear hl
    go_enter Tryz.func26, Tryz.ntmps26
    go_wp2_with fail
    clear h1 h2
    go_loopw [13] (fun i wr => ∃ k : Nat, k ≤ xs.length ∧ i = .int .i64 k ∧ xs.take k = ys.take k ∧ ∃ n, wr = w.drewN n) (fun i _ => xs.length - (intOf i).toNat)
    case atStart => exact ⟨0, by omega, rfl, rfl, 0, rfl⟩
    case round =>
      obtain ⟨k, hk, rfl, ht, n, rfl⟩ := hrel
      have HT := hid ht
      clear ht
      by_cases hlt : k < xs.length
      · have hlt2 : k < ys.length := by have := HL.out; omega
        obtain ⟨b1, o1, x, rfl, l1, ex, c1⟩ := HA.out.at_ hlt
        obtain ⟨b2, o2, y, rfl, l2, ey, c2⟩ := HB.out.at_ hlt2
        have EX := hid ex
        have EY := hid ey
        clear ex ey
        by_cases e : x = y
        · have e' : (x != y) = false := by simpa using e
          have E := hid e
          clear e
          go_wp2_with fail
          go_quiet (fail)
          go_wp2_with fail
          go_roundw
          case rel => exact ⟨k + 1, by omega, by go_num, take_step HT.out EX.out EY.out E.out, _, rfl⟩
          case measure => simp [intOf]; omega
        · have e' : (x != y) = true := by simpa using e
          go_wp2_with fail
          go_quiet (fail)
          go_wp2_with fail
          go_ret
          rw [eqB_no EX.out EY.out e]
          exact ⟨rfl, drewN_two _ _ _⟩
      · have hke : k = xs.length := by omega
        have HK := hid hke
        clear hke
        go_wp2_with fail
        go_ret
        rw [eqB_yes HT.out HK.out HL.out]
        exact ⟨rfl, _, rfl⟩
  · rw [eqB_len hl]
    have h1 : ((xs.length : Int) != (ys.length : Int)) = true := by simp; omega
    have h2 : (xs.length != ys.length) = true := by simp; omega
    go_enter Tryz.func26, Tryz.ntmps26
    go_wp2_with fail
    go_ret
    exact ⟨rfl, 0, rfl⟩
theorem same64_yes {X : List Int} (hx : X.length ≤ 9223372036854775807) {A B : Option Addr} {c d : Nat} (W : World) (h1 : Rd (Value.int .i64) W W.heap.size A X) (h2 : Rd (Value.int .i64) W W.heap.size B X) :
    Calls Tryz.prog 26 #[.slice A X.length c, .slice B X.length d] W fun e w' => e = .returned (.bool true) ∧ Below W.heap.size W w' := by
  have h := ref_Same64 (A := A) (B := B) (c := c) (d := d) X X hx hx W h1 h2
  rw [eqB_self] at h
  exact h.mono fun _ _ ⟨h1, n, h2⟩ => ⟨h1, by rw [h2]; exact belowN _ _ _⟩
end Go.Proofs.YtjkhdfncahhnoaaGreat
/- The program's numbers packed and woven, and signs. -/
namespace Go.Proofs.YtjkhdfncahhnoaaGreat
open Go.RowKit
set_option maxHeartbeats 400000
set_option maxRecDepth 100000
set_option linter.unusedVariables false
theorem pl_side (v : Int) (w : World) :
    Calls Tryz.prog 118 #[.int .i64 v] w fun e w' => e = .returned (.func (.func 121) #[] #[.pointer (some ⟨w.heap.size, 0, none⟩)]) ∧ w'.cell? ⟨w.heap.size, 0, none⟩ = some (.int .i64 v) ∧ w.heap.size < w'.heap.size ∧ Below w.heap.size w w' := by
  have hb := one_cell w (.int .i64 v) 3
  have HB := hid hb
  clear hb
  go_enter Tryz.func118, Tryz.ntmps118
  go_wp2_with fail
  go_ret
  exact ⟨rfl, HB.out.1, by simp [go_sem], HB.out.2⟩
theorem pl_planes (v : Int) (w : World) :
    Calls Tryz.prog 92 #[.int .i64 v] w fun e w' => e = .returned (.func (.func 109) #[] #[.pointer (some ⟨w.heap.size, 0, none⟩)]) ∧ w'.cell? ⟨w.heap.size, 0, none⟩ = some (.int .i64 v) ∧ w.heap.size < w'.heap.size ∧ Below w.heap.size w w' := by
  have hb := one_cell w (.int .i64 v) 3
  have HB := hid hb
  clear hb
  go_enter Tryz.func92, Tryz.ntmps92
  go_wp2_with fail
  go_ret
  exact ⟨rfl, HB.out.1, by simp [go_sem], HB.out.2⟩
theorem place_few {i j k m : Nat} (hi : i < m) (hj : j < k) (hk : k ≤ 32) (hm : m ≤ 4096) : i * k + j ≤ 1000000 := by
  have h := place_lt hi hj
  have := Nat.mul_le_mul hk hm
  omega
theorem few_place {i j k m : Nat} (hi : i < m) (hj : j < k) (hk : k ≤ 32) (hm : m ≤ 4096) : j * m + i ≤ 1000000 := by
  have h := place_lt (w := m) (m := k) hj hi
  have := Nat.mul_le_mul hm hk
  omega
theorem pl_Pack {A : Option Addr} {c : Nat} (wd : Int) (l : List Int) (hw : I64 wd) (hl : l.length ≤ 100000) (ul : U64s l) (w : World) (ra : Rd (Value.int .u64) w w.heap.size A l) :
    Calls Tryz.prog 110 #[.int .i64 wd, .slice A l.length c] w (OwnE 5 .u8 w.heap.size (pckV wd l) (mayE wd l) w) := by
  have CW : Hid (∀ w1 : World, w1.cell? ⟨w.heap.size, 0, none⟩ = some (.int .i64 wd) → w.heap.size < w1.heap.size → Below w.heap.size w w1 →
      Calls Tryz.prog 91 #[.int .i64 wd, .slice A l.length c, .func (.func 121) #[] #[.pointer (some ⟨w.heap.size, 0, none⟩)]] w1 (OwnE 5 .u8 w1.heap.size (pckV wd l) (mayE wd l) w1)) := hid (fun w1 hc hlt hb => by
    refine pl_write (A := A) (c := c) 121 _ wd l hw hl ul w1 (ra.on hb) (cl_enter _ (by kernel_rfl)) (sdF wd.toNat l) _ _ _ (places_side _ _) (fun i j x hx hj => by rw [sd_at hj, getD_of hx]) (fun hm i j hi hj W hW => ?_)
    obtain ⟨k, rfl, hk, h1, h2⟩ := may_nat hm ul
    have h4 := (bys_ok h1).2.2
    rw [Int.toNat_natCast] at hj ⊢
    exact side_cl ((hW.cell (p := ⟨w.heap.size, 0, none⟩) hlt).trans hc) rfl (place_few hi hj hk (by omega)))
  obtain ⟨X, hX⟩ : ∃ X, pckV wd l = X := ⟨_, rfl⟩
  obtain ⟨E, hE⟩ : ∃ E, mayE wd l = E := ⟨_, rfl⟩
  rw [hX, hE] at CW ⊢
  have CS := hid (pl_side wd w)
  clear hX hE ra ul
  go_enter Tryz.func110, Tryz.ntmps110
  go_wp2_with fail
  refine CS.out.mono ?_
  rintro _ w1 ⟨rfl, hc1, hlt1, hb1⟩
  have CW1 := hid (CW.out w1 hc1 hlt1 hb1)
  clear hc1 hlt1
  go_wp2_with fail
  refine CW1.out.mono ?_
  rintro _ w2 ⟨A2, c2, rfl, ho, hb2⟩
  have HO := hid (own_base ho hb1.size)
  clear ho
  go_wp2_with fail
  go_ret2
  exact ⟨A2, c2, rfl, HO.out, hb1.trans (hb2.mono hb1.size)⟩
theorem pl_Weave {A : Option Addr} {c : Nat} (wd : Int) (l : List Int) (hw : I64 wd) (hl : l.length ≤ 100000) (ul : U64s l) (w : World) (ra : Rd (Value.int .u64) w w.heap.size A l) :
    Calls Tryz.prog 61 #[.int .i64 wd, .slice A l.length c] w (OwnE 5 .u8 w.heap.size (wevV wd l) (mayE wd l) w) := by
  have CW : Hid (∀ w1 : World, w1.cell? ⟨w.heap.size, 0, none⟩ = some (.int .i64 (l.length : Int)) → w.heap.size < w1.heap.size → Below w.heap.size w w1 →
      Calls Tryz.prog 91 #[.int .i64 wd, .slice A l.length c, .func (.func 109) #[] #[.pointer (some ⟨w.heap.size, 0, none⟩)]] w1 (OwnE 5 .u8 w1.heap.size (wevV wd l) (mayE wd l) w1)) := hid (fun w1 hc hlt hb => by
    refine pl_write (A := A) (c := c) 109 _ wd l hw hl ul w1 (ra.on hb) (cl_enter _ (by kernel_rfl)) (plF wd.toNat l) _ _ _ (places_plane _ _) (fun i j x hx hj => by rw [pl_at ((List.getElem?_eq_some_iff.1 hx).1), getD_of hx]) (fun hm i j hi hj W hW => ?_)
    obtain ⟨k, rfl, hk, h1, h2⟩ := may_nat hm ul
    have h4 := (bys_ok h1).2.2
    rw [Int.toNat_natCast] at hj
    exact plane_cl ((hW.cell (p := ⟨w.heap.size, 0, none⟩) hlt).trans hc) rfl (few_place hi hj hk (by omega)))
  obtain ⟨X, hX⟩ : ∃ X, wevV wd l = X := ⟨_, rfl⟩
  obtain ⟨E, hE⟩ : ∃ E, mayE wd l = E := ⟨_, rfl⟩
  rw [hX, hE] at CW ⊢
  have CS := hid (pl_planes l.length w)
  clear hX hE ra ul
  go_enter Tryz.func61, Tryz.ntmps61
  go_wp2_with fail
  refine CS.out.mono ?_
  rintro _ w1 ⟨rfl, hc1, hlt1, hb1⟩
  have CW1 := hid (CW.out w1 hc1 hlt1 hb1)
  clear hc1 hlt1
  go_wp2_with fail
  refine CW1.out.mono ?_
  rintro _ w2 ⟨A2, c2, rfl, ho, hb2⟩
  have HO := hid (own_base ho hb1.size)
  clear ho
  go_wp2_with fail
  go_ret2
  exact ⟨A2, c2, rfl, HO.out, hb1.trans (hb2.mono hb1.size)⟩
/-- Signs as numbers. -/
theorem b2_u64 (bs : List Bool) : U64s (bs.map b2) := by
  intro x hx
  obtain ⟨v, _, rfl⟩ := List.mem_map.1 hx
  cases v <;> decide
theorem wdt_b2 (v : Bool) : wdt (b2 v) ≤ 1 := by cases v <;> decide
theorem sgn_may {bs : List Bool} (h : bs.length ≤ 4096) : mayE 1 (bs.map b2) = 0 := by
  unfold mayE
  rw [List.length_map]
  have h1 : bysE 1 (bs.length : Int) = 0 := by unfold bysE; rw [if_neg (by omega), if_neg (by omega)]
  rw [if_pos h1, if_pos]
  unfold fitsB
  rw [List.all_eq_true]
  intro x hx
  obtain ⟨v, _, rfl⟩ := List.mem_map.1 hx
  have := wdt_b2 v
  exact decide_eq_true (by omega)
theorem sgn_pck {bs : List Bool} (h : bs.length ≤ 4096) : pckV 1 (bs.map b2) = sgnV bs := by
  unfold pckV sgnV
  rw [if_pos (sgn_may h), if_neg (by omega), List.length_map]
  rw [show (1 : Int).toNat = 1 from rfl, Nat.one_mul]
  refine pkL_congr fun p hp => ?_
  unfold sdF
  rw [Nat.div_one, Nat.mod_one, List.getD_eq_getElem?_getD, List.getElem?_map, List.getD_eq_getElem?_getD, List.getElem?_eq_getElem hp, Option.map_some, Option.getD_some, Option.getD_some]
  cases bs[p] <;> decide
theorem pl_Signs {A : Option Addr} {c : Nat} (bs : List Bool) (hl : bs.length ≤ 1000000) (w : World) (ra : Rd Value.bool w w.heap.size A bs) :
    Calls Tryz.prog 93 #[.slice A bs.length c] w (OwnE 5 .u8 w.heap.size (sgnV bs) (sgnE bs) w) := by
  have CB := hid (fun W => pl_Bytes 1 bs.length (by decide) (by unfold I64; omega) W)
  by_cases h : 4096 < bs.length
  · have h1 : bysE 1 (bs.length : Int) = 3 := by unfold bysE; rw [if_neg (by omega), if_pos (by omega)]
    have h2 : sgnV bs = [] := if_pos h
    have h3 : sgnE bs = 3 := if_pos h
    rw [h1] at CB
    rw [h2, h3]
    obtain ⟨V, hV⟩ : ∃ V, bysV 1 (bs.length : Int) = V := ⟨_, rfl⟩
    rw [hV] at CB
    clear h1 h2 h3 hV ra
    go_enter Tryz.func93, Tryz.ntmps93
    go_wp2_with fail
    refine (CB.out _).mono ?_
    rintro _ _ ⟨rfl, rfl⟩
    go_wp2_with fail
    go_ret2
    exact .nil (Below.refl _ _)
  · have h1 : bysE 1 (bs.length : Int) = 0 := by unfold bysE; rw [if_neg (by omega), if_neg (by omega)]
    have h3 : sgnE bs = 0 := if_neg h
    rw [h1] at CB
    rw [h3]
    obtain ⟨V, hV⟩ : ∃ V, bysV 1 (bs.length : Int) = V := ⟨_, rfl⟩
    rw [hV] at CB
    have CP : Hid (∀ w1 : World, w1.rowIs w.heap.size 47 bs.length (fun j => .int .u64 (b2 (bs.getD j false))) → Calls Tryz.prog 110 #[.int .i64 1, .slice (some ⟨w.heap.size, 0, none⟩) bs.length bs.length] w1 (OwnE 5 .u8 w1.heap.size (sgnV bs) 0 w1)) := hid (fun w1 hr => by
      have h := pl_Pack (A := some ⟨w.heap.size, 0, none⟩) (c := bs.length) 1 (bs.map b2) (by decide) (by rw [List.length_map]; omega) (b2_u64 bs) w1 (by
        intro j x hx
        refine ⟨w.heap.size, 0, rfl, hr.lt, ?_⟩
        have hj := (List.getElem?_eq_some_iff.1 hx).1
        rw [List.length_map] at hj
        rw [Nat.zero_add, hr.cell hj]
        rw [List.getElem?_map, List.getElem?_eq_getElem hj, Option.map_some] at hx
        injection hx with hx
        rw [← hx, List.getD_eq_getElem?_getD, List.getElem?_eq_getElem hj, Option.getD_some])
      rw [List.length_map, sgn_pck (by omega), sgn_may (by omega)] at h
      exact h)
    obtain ⟨X, hX⟩ : ∃ X, sgnV bs = X := ⟨_, rfl⟩
    rw [hX] at CP ⊢
    have HG : Hid (∀ k x, bs[k]? = some x → bs.getD k false = x) := hid (fun k x hx => by rw [List.getD_eq_getElem?_getD, hx]; rfl)
    obtain ⟨g, hg⟩ : ∃ g : Nat → Bool, (fun j => bs.getD j false) = g := ⟨_, rfl⟩
    have hg' : ∀ j, bs.getD j false = g j := fun j => by rw [← hg]
    simp only [hg'] at CP HG
    have RA := hid ra
    obtain ⟨N, hN⟩ : ∃ N, bs.length = N := ⟨_, rfl⟩
    have HN := hid hN
    rw [hN] at CB CP hl h ⊢
    have hmk := fun W => run_make_row' (P := Tryz.prog) 26 47 (.int .u64 0) 8 Tryz.underlying26 info_u64 rfl .i64 .i64 N (by omega) (by omega) W
    clear h1 h3 hV hX hg hg' ra hN
    go_enter Tryz.func93, Tryz.ntmps93
    go_wp2_with fail
    refine (CB.out _).mono ?_
    rintro _ _ ⟨rfl, rfl⟩
    go_wp2_with fail
    go_loopw [7, 8, 23] (fun a b i wr => ∃ k : Nat, k ≤ N ∧ i = .int .i64 k ∧ wr.rowIs w.heap.size 47 N (fun j => if j < k then .int .u64 (b2 (g j)) else .int .u64 0) ∧ Below w.heap.size w wr) (fun _ _ i _ => N - (intOf i).toNat)
    case atStart => exact ⟨0, by omega, rfl, by simpa using World.rowIs_made w (.int .u64 0) N _, by go_grown⟩
    case round =>
      obtain ⟨k, hk, rfl, hrow, hbel⟩ := hrel
      have HR := hid hrow
      clear hmk
      by_cases hlt : k < N
      · obtain ⟨b1, o1, x, rfl, l1, ex, c1⟩ := (RA.out.below hbel).at_ (k := k) (by rw [HN.out]; exact hlt)
        have hgk := HG.out k x ex
        have f1 := hrow.frozen k
        have c2 := hrow.cell hlt
        rw [if_neg (Nat.lt_irrefl k)] at c2
        have HGk := hid hgk
        clear ex hgk hrow
        cases x with
        | false =>
          go_wp2_with fail
          go_roundw
          case rel =>
            refine ⟨k + 1, by omega, by go_num, HR.out.congr fun j hj => ?_, hbel⟩
            by_cases e : j = k
            · rw [e, if_neg (Nat.lt_irrefl k), if_pos (by omega), HGk.out]; rfl
            · by_cases e2 : j < k
              · rw [if_pos e2, if_pos (by omega)]
              · rw [if_neg e2, if_neg (by omega)]
          case measure => simp [intOf]; omega
        | true =>
          go_wp2_with fail
          go_roundw
          case rel =>
            refine ⟨k + 1, by omega, by go_num, ?_, hbel.setCell (Nat.le_refl _) _⟩
            refine (HR.out.set k (.int .u64 1)).congr fun j hj => ?_
            by_cases e : j = k
            · rw [if_pos e, e, if_pos (by omega), HGk.out]; rfl
            · rw [if_neg e]
              by_cases e2 : j < k
              · rw [if_pos e2, if_pos (by omega)]
              · rw [if_neg e2, if_neg (by omega)]
          case measure => simp [intOf]; omega
      · obtain rfl : k = N := by omega
        have CP1 := hid (CP.out wr (HR.out.congr fun j hj => by rw [if_pos hj]))
        clear hrow HR
        go_wp2_with fail
        refine CP1.out.mono ?_
        rintro _ w2 ⟨A2, c2, rfl, ho, hb2⟩
        have HO := hid (own_base ho hbel.size)
        clear ho
        go_wp2_with fail
        go_ret2
        exact ⟨A2, c2, rfl, HO.out, hbel.trans (hb2.mono hbel.size)⟩
end Go.Proofs.YtjkhdfncahhnoaaGreat
/- What is picked, the least size of some: by the document. -/
namespace Go.Proofs.YtjkhdfncahhnoaaGreat
open Go.RowKit
set_option maxHeartbeats 400000
set_option maxRecDepth 100000
set_option linter.unusedVariables false
/-- The first k, rising; its error. -/
def pikE (v : List Int) (k : Int) : Int := if orkE v ≠ 0 then orkE v else if k < 0 ∨ (v.length : Int) < k then 1 else 0
def pikV (v : List Int) (k : Int) : List Int := if pikE v k = 0 then pkI v k.toNat else []
theorem pikE_ok {v : List Int} {k : Int} : pikE v k = 0 ↔ v.length ≤ 4096 ∧ 0 ≤ k ∧ k ≤ v.length := by
  unfold pikE
  by_cases h : orkE v = 0
  · have := orkE_ok.1 h
    rw [if_neg (by omega)]
    split <;> omega
  · have : ¬ v.length ≤ 4096 := fun h2 => h (orkE_ok.2 h2)
    rw [if_pos h]
    omega
theorem pikV_len {v : List Int} {k : Int} (h : pikE v k = 0) : ((pikV v k).length : Int) = k := by
  have h2 := pikE_ok.1 h
  unfold pikV
  rw [if_pos h, pkI_len (by omega)]
  omega
theorem pikV_le (v : List Int) (k : Int) : (pikV v k).length ≤ v.length := by
  by_cases h : pikE v k = 0
  · have h2 := pikE_ok.1 h
    have := pikV_len h
    omega
  · unfold pikV
    rw [if_neg h]
    simp
theorem mrg_pick {v : List Int} {k : Nat} (h : orkE v = 0) (hk : k ≤ v.length) : mrgV [(orkV v).take k] = pkI v k := by
  refine (mrgV_eq (pkI_ris v k) fun x => ?_).symm
  unfold orkV pkI
  rw [if_pos h, ← List.map_take]
  simp only [List.mem_singleton, exists_eq_left, List.mem_map]
  constructor
  · rintro ⟨i, hi, rfl⟩
    exact ⟨i, (pkF_ord hk).1 hi, rfl⟩
  · rintro ⟨i, hi, rfl⟩
    exact ⟨i, (pkF_ord hk).2 hi, rfl⟩
/-- The least size at some places, and whether there is one. -/
def lsS (v : List Int) (a : Nat × Bool) (n : Int) : Nat × Bool :=
  if n < 0 ∨ (v.length : Int) ≤ n then a else if a.2 = false ∨ szN (v.getD n.toNat 0) < a.1 then (szN (v.getD n.toNat 0), true) else a
def lstR (l v : List Int) : Nat × Bool := l.foldl (lsS v) (0, false)
theorem lst_snoc {l : List Int} {k : Nat} {n : Int} (v : List Int) (h : l[k]? = some n) : lstR (l.take (k + 1)) v = lsS v (lstR (l.take k) v) n := by
  unfold lstR
  rw [take_snoc h, List.foldl_append]
  rfl
theorem lst_bound {v : List Int} (uv : ∀ x ∈ v, I64 x) : ∀ (l : List Int) (a : Nat × Bool), a.1 ≤ 9223372036854775808 → (l.foldl (lsS v) a).1 ≤ 9223372036854775808
  | [], a, h => h
  | n :: l, a, h => by
    refine lst_bound uv l _ ?_
    unfold lsS
    split
    · exact h
    · rename_i h1
      split
      · have hn : n.toNat < v.length := by omega
        refine szN_le (uv _ ?_)
        rw [List.getD_eq_getElem?_getD, List.getElem?_eq_getElem hn, Option.getD_some]
        exact List.getElem_mem hn
      · exact h
end Go.Proofs.YtjkhdfncahhnoaaGreat
/- Orders, who is picked, who is left, the least size, scaled and turned: what the laws ask. Plain mathematics. No program in sight. -/
namespace Go.Proofs.YtjkhdfncahhnoaaGreat
open Go.RowKit
set_option maxRecDepth 100000
set_option linter.unusedVariables false
theorem ork_at {v : List Int} (h : orkE v = 0) {r : Nat} {n : Int} (hn : (orkV v)[r]? = some n) : ∃ m : Nat, n = m ∧ m < v.length ∧ rkN v m = r := by
  have hr : r < v.length := by
    have := (List.getElem?_eq_some_iff.1 hn).1
    rwa [orkV_len h] at this
  unfold orkV at hn
  rw [if_pos h, List.getElem?_map, ordT_at hr] at hn
  simp at hn
  exact ⟨atR v r, hn.symm, (atR_is hr).1, (atR_is hr).2⟩
theorem ork_next {v : List Int} (h : orkE v = 0) {r a b : Nat} (ha : (orkV v)[r]? = some (a : Int)) (hb : (orkV v)[r + 1]? = some (b : Int)) : ahB v a b = true := by
  obtain ⟨m, e, h1, h2⟩ := ork_at h ha
  obtain ⟨m', e', h1', h2'⟩ := ork_at h hb
  obtain rfl : a = m := by omega
  obtain rfl : b = m' := by omega
  exact (rk_iff h1 h1').1 (by omega)
theorem pik_at {v : List Int} {k : Int} (h : pikE v k = 0) {n : Int} (hn : n ∈ pikV v k) : ∃ m : Nat, n = m ∧ m < v.length ∧ m ∈ pkF v k.toNat := by
  unfold pikV at hn
  rw [if_pos h] at hn
  obtain ⟨i, e, hi, hr⟩ := pkI_mem.1 hn
  exact ⟨i, e, hi, pkF_mem.2 ⟨hi, hr⟩⟩
theorem pik_in {v : List Int} {k : Int} (h : pikE v k = 0) {m : Nat} : (m : Int) ∈ pikV v k ↔ m ∈ pkF v k.toNat := by
  unfold pikV pkI
  rw [if_pos h, List.mem_map]
  constructor
  · rintro ⟨i, hi, e⟩
    obtain rfl : i = m := by omega
    exact hi
  · intro hm
    exact ⟨m, hm, rfl⟩
theorem pik_ris (v : List Int) (k : Int) : risP (pikV v k) := by
  unfold pikV
  split
  · exact pkI_ris _ _
  · exact ris_nil
theorem pik_plc {v : List Int} {k : Int} (h : pikE v k = 0) (h0 : v ≠ []) : chkE v.length (pikV v k) = 0 := by
  refine chk_ok.2 ⟨?_, ?_, pik_ris v k, fun n hn => ?_⟩
  · have : v.length ≠ 0 := fun e => h0 (List.length_eq_zero_iff.1 e)
    omega
  · have := (pikE_ok.1 h).1
    omega
  · obtain ⟨m, rfl, hm, _⟩ := pik_at h hn
    omega
theorem pik_left {v : List Int} {k : Int} (h : pikE v k = 0) (h0 : v ≠ []) {n : Int} (hn : n ∈ lfV v.length (pikV v k)) : ∃ m : Nat, n = m ∧ m < v.length ∧ m ∉ pkF v k.toNat := by
  unfold lfV at hn
  rw [if_pos (pik_plc h h0), Int.toNat_natCast] at hn
  obtain ⟨⟨h1, h2⟩, h3⟩ := lfF_mem.1 hn
  obtain ⟨m, rfl⟩ := Int.eq_ofNat_of_zero_le h1
  exact ⟨m, rfl, by omega, fun hm => h3 ((pik_in h).2 hm)⟩
/-- The least of some sizes, all of them of places. -/
theorem lst_is {v : List Int} : ∀ (l : List Int) (a : Nat × Bool), (∀ n ∈ l, 0 ≤ n ∧ n < (v.length : Int)) →
    (l = [] ∧ l.foldl (lsS v) a = a) ∨ ((l.foldl (lsS v) a).2 = true ∧ ((∃ n ∈ l, (l.foldl (lsS v) a).1 = szN (v.getD n.toNat 0)) ∨ (a.2 = true ∧ (l.foldl (lsS v) a).1 = a.1)))
  | [], a, _ => .inl ⟨rfl, rfl⟩
  | n :: l, a, h => by
    right
    have hn := h n (by simp)
    have hs : lsS v a n = if a.2 = false ∨ szN (v.getD n.toNat 0) < a.1 then (szN (v.getD n.toNat 0), true) else a := by
      unfold lsS
      rw [if_neg (by omega)]
    rw [List.foldl_cons]
    have ih := lst_is l (lsS v a n) (fun m hm => h m (by simp [hm]))
    by_cases hc : a.2 = false ∨ szN (v.getD n.toNat 0) < a.1
    · rw [if_pos hc] at hs
      rw [hs] at ih ⊢
      rcases ih with ⟨e1, e2⟩ | ⟨e1, ⟨m, hm, e2⟩ | ⟨e2, e3⟩⟩
      · rw [e2]
        exact ⟨rfl, .inl ⟨n, by simp, rfl⟩⟩
      · exact ⟨e1, .inl ⟨m, by simp [hm], e2⟩⟩
      · exact ⟨e1, .inl ⟨n, by simp, e3⟩⟩
    · rw [if_neg hc] at hs
      have ha : a.2 = true := by
        cases h2 : a.2
        · exact absurd (.inl h2) hc
        · rfl
      rw [hs] at ih ⊢
      rcases ih with ⟨e1, e2⟩ | ⟨e1, ⟨m, hm, e2⟩ | ⟨e2, e3⟩⟩
      · rw [e2]
        exact ⟨ha, .inr ⟨ha, rfl⟩⟩
      · exact ⟨e1, .inl ⟨m, by simp [hm], e2⟩⟩
      · exact ⟨e1, .inr ⟨e2, e3⟩⟩
/-- Of who is picked the least size is no less than any size of who is left; there is one just if some are picked. -/
theorem pik_least {v : List Int} {k : Int} (h : pikE v k = 0) (h0 : v ≠ []) : (lstR (pikV v k) v).2 = decide (0 < k) ∧
    ∀ n m : Nat, n < v.length → n ∉ pkF v k.toNat → v[n]? = some (v.getD n 0) ∧ ((lstR (pikV v k) v).2 = true → szN (v.getD n 0) ≤ (lstR (pikV v k) v).1) := by
  have hb : ∀ n ∈ pikV v k, 0 ≤ n ∧ n < (v.length : Int) := fun n hn => by
    obtain ⟨m, rfl, hm, _⟩ := pik_at h hn
    omega
  have hl := pikV_len h
  have hk := pikE_ok.1 h
  rcases lst_is (pikV v k) (0, false) hb with ⟨e1, e2⟩ | ⟨e1, ⟨m, hm, e2⟩ | ⟨e2, _⟩⟩
  · have hk0 : k = 0 := by rw [e1] at hl; simpa using hl.symm
    have e3 : lstR (pikV v k) v = (0, false) := e2
    rw [e3, hk0]
    exact ⟨by decide, fun n m hn _ => ⟨by rw [List.getElem?_eq_getElem hn, List.getD_eq_getElem?_getD, List.getElem?_eq_getElem hn, Option.getD_some], fun hf => by cases hf⟩⟩
  · have e3 : (lstR (pikV v k) v).2 = true := e1
    have hk0 : 0 < k := by
      have : 0 < (pikV v k).length := List.length_pos_of_mem hm
      omega
    refine ⟨by rw [e3, decide_eq_true hk0], fun n _ hn ho => ⟨by rw [List.getElem?_eq_getElem hn, List.getD_eq_getElem?_getD, List.getElem?_eq_getElem hn, Option.getD_some], fun _ => ?_⟩⟩
    obtain ⟨i, rfl, hi, hp⟩ := pik_at h hm
    have ha := ahB_iff.1 (pk_ahead hp hn ho)
    have e4 : (lstR (pikV v k) v).1 = szN (v.getD i 0) := e2
    rw [e4]
    omega
  · cases e2
/-- A number's opposite, as 64 bits have it. -/
def ngW (n : Int) : Int := wrap64 (-n)
def ngL (v : List Int) : List Int := v.map ngW
theorem ngW_i64 (n : Int) : I64 (ngW n) := by unfold ngW I64 wrap64; omega
theorem ngW_sz {n : Int} (h : I64 n) : szN (ngW n) = szN n := by unfold szN ngW wrap64; unfold I64 at h; omega
theorem ngL_i64 (v : List Int) : ∀ x ∈ ngL v, I64 x := fun x hx => by
  unfold ngL at hx
  obtain ⟨y, _, rfl⟩ := List.mem_map.1 hx
  exact ngW_i64 y
theorem getD_i64 {v : List Int} (uv : ∀ x ∈ v, I64 x) (i : Nat) : I64 (v.getD i 0) := by
  rw [List.getD_eq_getElem?_getD]
  cases h : v[i]? with
  | none => show I64 0; decide
  | some x => exact uv x (List.mem_of_getElem? h)
theorem ngL_ah {v : List Int} (uv : ∀ x ∈ v, I64 x) (i k : Nat) : ahB (ngL v) i k = ahB v i k := by
  unfold ahB ngL
  have h0 : ngW 0 = 0 := by unfold ngW wrap64; omega
  rw [getD_map h0, getD_map h0, ngW_sz (getD_i64 uv i), ngW_sz (getD_i64 uv k)]
theorem pik_alike {v u : List Int} (hl : u.length = v.length) (h : ∀ i k, ahB u i k = ahB v i k) (k : Int) : pikE u k = pikE v k ∧ pikV u k = pikV v k := by
  have e1 : pikE u k = pikE v k := by unfold pikE orkE; rw [hl]
  refine ⟨e1, ?_⟩
  unfold pikV pkI
  rw [e1, pk_alike hl h]
theorem pik_zero {v : List Int} (h : v.length ≤ 4096) : pikE v 0 = 0 ∧ pikV v 0 = [] := by
  have h1 : pikE v 0 = 0 := pikE_ok.2 ⟨h, by omega, by omega⟩
  refine ⟨h1, ?_⟩
  have := pikV_len h1
  exact List.length_eq_zero_iff.1 (by omega)
theorem pik_more {v : List Int} {k m : Int} (h1 : pikE v k = 0) (h2 : pikE v m = 0) (h : k ≤ m) {n : Int} (hn : n ∈ pikV v k) : hasB (pikV v m) n = true := by
  obtain ⟨i, rfl, _, hi⟩ := pik_at h1 hn
  refine decide_eq_true ((pik_in h2).2 ?_)
  have h3 := (pikE_ok.1 h1).2.1
  exact pk_more (by omega) hi
end Go.Proofs.YtjkhdfncahhnoaaGreat
