
/- Orders, by the program. -/
import Derived.Test.YtjkdmpegdgkdfaaDrA
import Derived.Test.YtjkdmpegdgkdfaaShelf
import Derived.BigRegion
namespace Go.Proofs.Ytjkdmpegdgkdfaa
open Go.RowKit
set_option maxHeartbeats 400000
set_option maxRecDepth 100000
set_option linter.unusedVariables false
/-- Memory of the call's own that holds an order. -/
theorem own_ord {w' : World} {b B M : Nat} {e : TypeId} {g : Nat → Nat} {L : List Int} (h : w'.rowIs b e M (fun j => .int .i64 (g j : Int))) (hB : B ≤ b) (hM : M ≤ 4096) (hL : L = (List.range M).map fun j => (g j : Int)) :
    w'.ownsRow B e 1 (.slice (some ⟨b, 0, none⟩) L.length M) L.length (L.map (Value.int .i64)) := by
  have h2 := own_made (w' := w') h hB (by unfold maxLen; omega)
  subst hL
  rw [List.length_map, List.length_range, List.map_map]
  exact h2
theorem ordV_eq {M : Nat} (h : M ≤ 4096) (s : Nat) (n : List Int) : ordV (M : Int) s n = (List.range M).map fun j => (orF M s n j : Int) := by
  unfold ordV
  rw [if_pos (ordE_ok.2 (by omega)), Int.toNat_natCast]
theorem shF_down {d : Nat → Nat} {m : Nat} (h : 1 ≤ m) (g : Nat → Nat) : shF d m g = shF d (m - 1) (swF g m (d m)) := by
  obtain ⟨k, rfl⟩ : ∃ k, m = k + 1 := ⟨m - 1, by omega⟩
  rfl
theorem dr_Order {A : Option Addr} {c : Nat} (many : Int) (hm : I64 many) (s : Nat) (hs : s < 2 ^ 64) (n : List Int) (hn : n.length ≤ 9223372036854775807) (un : ∀ x ∈ n, I64 x) (w : World) (ra : Rd (Value.int .i64) w w.heap.size A n) :
    Calls Try.prog 17 #[.int .i64 many, .int .u64 (s : Int), .slice A n.length c] w (OwnE 3 .i64 w.heap.size (ordV many s n) (ordE many) w) := by
  unfold I64 at hm
  by_cases h1 : many < 0
  · have he : ordE many = 1 := if_pos h1
    have hv : ordV many s n = [] := if_neg (by rw [he]; decide)
    rw [he, hv]
    clear he hv ra un
    go_enter Try.func17, Try.ntmps17
    go_wp2_with fail
    go_ret2
    exact .nil (Below.refl _ _)
  · by_cases h2 : 4096 < many
    · have he : ordE many = 3 := by unfold ordE; rw [if_neg h1, if_pos h2]
      have hv : ordV many s n = [] := if_neg (by rw [he]; decide)
      rw [he, hv]
      clear he hv ra un
      go_enter Try.func17, Try.ntmps17
      go_wp2_with fail
      go_ret2
      exact .nil (Below.refl _ _)
    · obtain ⟨M, rfl⟩ := Int.eq_ofNat_of_zero_le (show 0 ≤ many by omega)
      have hM : M ≤ 4096 := by omega
      have he : ordE (M : Int) = 0 := ordE_ok.2 (by omega)
      rw [he]
      have HV := hid (ordV_eq hM s n)
      obtain ⟨V, hV⟩ : ∃ V, ordV (M : Int) s n = V := ⟨_, rfl⟩
      rw [hV] at HV ⊢
      have HF : Hid (shF (plN s n) (M - 1) (fun x => x) = orF M s n) := rfl
      obtain ⟨F, hF⟩ : ∃ F, orF M s n = F := ⟨_, rfl⟩
      rw [hF] at HF HV
      have hmk := fun W => run_make_row' (P := Try.prog) 23 3 (.int .i64 0) 8 Try.underlying23 info_int rfl .i64 .i64 M (by omega) (by omega) W
      have HA := hid ra
      have UN := hid un
      clear ra un he hV hF h1 h2
      go_enter Try.func17, Try.ntmps17
      go_wp2_with fail
      go_loopw [9, 23] (fun x9 i wr => ∃ k : Nat, k ≤ M ∧ i = .int .i64 k ∧ wr.rowIs w.heap.size 3 M (fun j => .int .i64 (if j < k then (j : Int) else 0)) ∧ Below w.heap.size w wr) (fun _ i _ => M - (intOf i).toNat)
      case atStart => exact ⟨0, by omega, rfl, by simpa using World.rowIs_made w (.int .i64 0) M _, by go_grown⟩
      case round =>
        clear hmk
        obtain ⟨k, hk, rfl, hrow, hbel⟩ := hrel
        have HR := hid hrow
        by_cases hlt : k < M
        · have f1 := hrow.frozen k
          have c3 := hrow.cell hlt
          clear hrow
          go_wp2_with fail
          first | go_region | skip
          go_wp2_with fail
          go_roundw
          case rel =>
            refine ⟨k + 1, by omega, by go_num, ?_, hbel.setCell (Nat.le_refl _) _⟩
            refine World.rowIs.congr (HR.out.set k (.int .i64 k)) fun j hj => ?_
            by_cases e : j = k
            · rw [if_pos e, if_pos (by omega), e]
            · by_cases e2 : j < k
              · rw [if_neg e, if_pos e2, if_pos (by omega)]
              · rw [if_neg e, if_neg e2, if_neg (by omega)]
          case measure => simp [intOf]; omega
        · have HR0 : Hid (wr.rowIs w.heap.size 3 M (fun j => .int .i64 ((((fun x => x) j : Nat)) : Int))) := hid (hrow.congr fun j hj => by rw [if_pos (by omega)])
          have CB := hid (dr_blend (c := c) s hs n hn UN.out wr (HA.out.below hbel))
          clear hrow HR
          have HBL := hid (fun i => atN_one s n i)
          have hb64 := blN_lt n hs
          obtain ⟨bl, hbl⟩ : ∃ bl, blN s n = bl := ⟨_, rfl⟩
          rw [hbl] at CB HBL hb64
          clear hbl
          go_wp2_with fail
          refine CB.out.mono ?_
          rintro _ _ ⟨rfl, rfl⟩
          have hM' : (M : Int) ≤ 4096 := by omega
          go_wp2_with fail
          have HB := hid hbel
          clear CB
          go_loopw [11, 12] (fun i x12 wr => ∃ (u : Int) (g : Nat → Nat), -1 ≤ u ∧ u < M ∧ u ≤ 4095 ∧ i = .int .i64 u ∧ wr.rowIs w.heap.size 3 M (fun j => .int .i64 (g j : Int)) ∧ shF (plN s n) u.toNat g = F ∧ Below w.heap.size w wr) (fun i _ _ => (intOf i).toNat)
          case atStart => exact ⟨(M : Int) - 1, fun x => x, by omega, by omega, by omega, rfl, HR0.out, by rw [show ((M : Int) - 1).toNat = M - 1 by omega]; exact HF.out, HB.out⟩
          case round =>
            clear HR0 HB hbel
            obtain ⟨u, g, hu0, hu1, hu2, rfl, hrow, hg, hbel⟩ := hrel
            have HG := hid hg
            clear hg
            by_cases hlt : 1 ≤ u
            · obtain ⟨m, rfl⟩ := Int.eq_ofNat_of_zero_le (show 0 ≤ u by omega)
              rw [Int.toNat_natCast] at HG
              have hm1 : 1 ≤ m := by omega
              have hmM : m < M := by omega
              have HG2 := hid ((shF_down hm1 g).symm.trans HG.out)
              clear HG
              have hpl := plN_le s n m
              have HP : Hid (atN bl [(m : Int)] % (m + 1) = plN s n m) := hid (by rw [HBL.out]; rfl)
              obtain ⟨p, hp⟩ : ∃ p, plN s n m = p := ⟨_, rfl⟩
              rw [hp] at hpl HP HG2
              clear hp
              have CA := hid (dr_At (A := some ⟨wr.heap.size, 0, none⟩) (c := 1) bl hb64 [(m : Int)] (by simp) (by intro x hx; simp at hx; subst hx; unfold I64; omega) (wr.alloc (.cells #[.int .i64 (m : Int)] 3)) (rd_new (enc := Value.int .i64) wr 3 [(m : Int)]))
              obtain ⟨a, ha⟩ : ∃ a, atN bl [(m : Int)] = a := ⟨_, rfl⟩
              rw [ha] at CA HP
              have e1 : (a : Int) % ((m : Int) + 1) = (p : Int) := by rw [← HP.out]; exact_mod_cast rfl
              have e2 : IntKind.u64.wrap ((m : Int) + 1) = (m : Int) + 1 := by rw [IntKind.wrap_u64]; omega
              clear ha HP
              have hbw : Below w.heap.size w (wr.alloc (.cells #[.int .i64 (m : Int)] 3)) := hbel.trans (by have := hbel.size; go_grown)
              have hrow2 := hrow.alloc (.cells #[.int .i64 (m : Int)] 3)
              clear hlt
              go_wp2_with fail
              refine CA.out.mono ?_
              rintro _ w2 ⟨rfl, hw2⟩
              rw [hw2] at hbw hrow2
              clear hw2 CA hrow hbel
              have HBW := hid hbw
              have HROW := hid hrow2
              have ci := hrow2.cell hmM
              have cp := hrow2.cell (show p < M by omega)
              have fi := hrow2.frozen m
              have fp := hrow2.frozen p
              have hpM : (p : Int) < (M : Int) := by omega
              obtain ⟨x, hx⟩ : ∃ x, g m = x := ⟨_, rfl⟩
              obtain ⟨y, hy⟩ : ∃ y, g p = y := ⟨_, rfl⟩
              rw [hx] at ci
              rw [hy] at cp
              obtain ⟨v', hy'⟩ := cell?_setCell_some (w := w2) (p := ⟨w.heap.size, m, none⟩) (x := .int .i64 (y : Int)) (q := ⟨w.heap.size, p, none⟩) (v := .int .i64 (y : Int)) cp
              have HX := hid hx
              have HY := hid hy
              clear hx hy hbw hrow2
              go_wp2_with fail
              go_region
              all_goals go_wp2_with fail
              all_goals go_roundw
              case rel =>
                refine ⟨(m : Int) - 1, swF g m p, by omega, by omega, by omega, rfl, ?_, by rw [show ((m : Int) - 1).toNat = m - 1 by omega]; exact HG2.out, ((HBW.out.setCell (Nat.le_refl _) _).setCell (Nat.le_refl _) _).drew⟩
                refine World.rowIs.congr (((HROW.out.set m (.int .i64 (y : Int))).set p (.int .i64 (x : Int))).drew) fun j hj => ?_
                unfold swF
                by_cases e1 : j = p
                · rw [if_pos e1, if_pos e1, HX.out]
                · by_cases e2 : j = m
                  · rw [if_neg e1, if_neg e1, if_pos e2, if_pos e2, HY.out]
                  · rw [if_neg e1, if_neg e1, if_neg e2, if_neg e2]
              case measure => simp [intOf]; omega
            · go_wp2_with fail
              go_ret2
              have hu : u.toNat = 0 := by omega
              rw [hu] at HG
              have hgF : g = F := HG.out
              subst hgF
              have hl : V.length = M := by rw [HV.out]; simp
              exact ⟨_, _, by rw [hl]; rfl, own_ord hrow (Nat.le_refl _) hM HV.out, hbel⟩
theorem Clone_ints {A : Option Addr} {c : Nat} (xs : List Int) (hx : xs.length ≤ 4096) (w : World) {B : Nat} (ra : Rd (Value.int .i64) w B A xs) :
    Calls Try.prog 24 #[.slice A xs.length c] w (OwnOf 3 .i64 w.heap.size xs w) := by
  rcases A with _ | ad
  · have hxs : xs = [] := by
      cases xs with
      | nil => rfl
      | cons x xs =>
        obtain ⟨_, _, he, _⟩ := ra 0 x rfl
        cases he
    subst hxs
    refine (Try.slices_Clone_int_nil 0 c w).mono ?_
    rintro _ _ ⟨rfl, rfl⟩
    exact ⟨none, 0, rfl, own_nil _ _ _, Below.refl _ _⟩
  · cases xs with
    | nil =>
      refine (Try.slices_Clone_int_zero ad c w).mono ?_
      rintro _ _ ⟨v, rfl, ho, _, hb⟩
      obtain ⟨A', c', rfl⟩ := own_shape ho
      exact ⟨A', c', rfl, ho, hb⟩
    | cons x xs =>
      obtain ⟨b, off, ha, _, _⟩ := ra 0 x rfl
      injection ha with ha
      subst ha
      refine (Try.slices_Clone_int b off (x :: xs).length c (x :: xs) w (Nat.le_refl _) (by omega) (fun i hi => ?_)).mono ?_
      · obtain ⟨b', off', y, ha, _, hy, hc⟩ := ra.at_ hi
        injection ha with ha
        injection ha with h1 h2 h3
        subst h1 h2
        rw [hc]
        simp [List.getD, hy]
      · rintro _ _ ⟨v, rfl, ho, _, hb⟩
        obtain ⟨A', c', rfl⟩ := own_shape ho
        rw [List.take_of_length_le (Nat.le_refl _)] at ho
        exact ⟨A', c', rfl, ho, hb⟩
theorem dr_Pick {A : Option Addr} {c : Nat} (many of : Int) (hm : I64 many) (hf : I64 of) (s : Nat) (hs : s < 2 ^ 64) (n : List Int) (hn : n.length ≤ 9223372036854775807) (un : ∀ x ∈ n, I64 x) (w : World) (ra : Rd (Value.int .i64) w w.heap.size A n) :
    Calls Try.prog 19 #[.int .i64 many, .int .i64 of, .int .u64 (s : Int), .slice A n.length c] w (OwnE 3 .i64 w.heap.size (picV many of s n) (picE many of) w) := by
  have C := hid (dr_Order (c := c) of hf s hs n hn un w ra)
  unfold I64 at hm hf
  clear ra un
  by_cases h1 : many < 0
  · have he : picE many of = 1 := if_pos (.inl h1)
    have hv : picV many of s n = [] := if_neg (by rw [he]; decide)
    rw [he, hv]
    clear he hv C
    go_enter Try.func19, Try.ntmps19
    go_wp2_with fail
    go_ret2
    exact .nil (Below.refl _ _)
  · by_cases h2 : of < many
    · have he : picE many of = 1 := if_pos (.inr h2)
      have hv : picV many of s n = [] := if_neg (by rw [he]; decide)
      rw [he, hv]
      clear he hv C
      go_enter Try.func19, Try.ntmps19
      go_wp2_with fail
      go_ret2
      exact .nil (Below.refl _ _)
    · have he : picE many of = ordE of := if_neg (fun h => h.elim h1 h2)
      by_cases h3 : ordE of = 0
      · have hv : picV many of s n = (ordV of s n).take many.toNat := if_pos (he.trans h3)
        have hl := ordV_len h3 s n
        have h4 := (ordE_ok.1 h3).2
        obtain ⟨m, rfl⟩ := Int.eq_ofNat_of_zero_le (show 0 ≤ many by omega)
        rw [Int.toNat_natCast] at hv
        rw [he, hv, h3]
        rw [h3] at C
        obtain ⟨L, hL⟩ : ∃ L, ordV of s n = L := ⟨_, rfl⟩
        rw [hL] at C hl ⊢
        have hmL : m ≤ L.length := by omega
        have hLm : L.length ≤ 4096 := by omega
        have HL := hid hl
        obtain ⟨T, hT⟩ : ∃ T, L.take m = T := ⟨_, rfl⟩
        rw [hT]
        clear he hv h3 hL hl
        go_enter Try.func19, Try.ntmps19
        go_wp2_with fail
        refine C.out.mono ?_
        rintro _ w1 ⟨A1, c1, rfl, ho, hb⟩
        have hcap := own_cap ho
        have hsl := fun W => run_upto (P := Try.prog) 23 Try.underlying23 Try.sizeOf3 A1 L.length c1 m (by omega) W
        have hlen : (L.take m).length = m := by rw [List.length_take]; omega
        have CC := hid (Clone_ints (A := cutA A1 0 c1) (c := c1) (L.take m) (by omega) w1 ((own_rd ho).cut0 hcap.1 m))
        rw [hlen] at CC
        rw [hT] at hlen CC
        have HLEN := hid hlen
        have HB := hid hb
        clear C ho hT hlen hb
        go_wp2_with fail
        refine CC.out.mono ?_
        rintro _ w2 ⟨A2, c2, rfl, ho2, hb2⟩
        go_wp2_with fail
        go_ret2
        exact ⟨A2, c2, rfl, own_base ho2 HB.out.size, below_step HB.out hb2 (Nat.le_refl _)⟩
      · have hv : picV many of s n = [] := if_neg (by rw [he]; exact h3)
        have hv2 : ordV of s n = [] := if_neg h3
        rw [he, hv]
        rw [hv2] at C
        obtain ⟨E, hE⟩ : ∃ E, ordE of = E := ⟨_, rfl⟩
        rw [hE] at C h3 ⊢
        have hne : (E != 0) = true := by simpa using h3
        clear he hv hv2 hE h3
        go_enter Try.func19, Try.ntmps19
        go_wp2_with fail
        refine C.out.mono ?_
        rintro _ w1 ⟨A1, c1, rfl, ho, hb⟩
        go_wp2_with fail
        go_ret2
        exact .nil hb
end Go.Proofs.Ytjkdmpegdgkdfaa
