
/- Orders, by the document. -/
import Derived.Test.YtjkdmpegdgkdfaaDrB
namespace Go.Proofs.Ytjkdmpegdgkdfaa
open Go.RowKit
set_option maxHeartbeats 400000
set_option maxRecDepth 100000
set_option linter.unusedVariables false
/-- The first things of a list of the call's own. -/
theorem own_cut {w : World} {base c k : Nat} {e : TypeId} {A : Option Addr} {L : List Int} (h : w.ownsRow base e 1 (.slice A L.length c) L.length (L.map (Value.int .i64))) (hk : k ≤ L.length) :
    w.ownsRow base e 1 (.slice (cutA A 0 c) (L.take k).length c) (L.take k).length ((L.take k).map (Value.int .i64)) := by
  have hlen : (L.take k).length = k := by rw [List.length_take]; omega
  refine ⟨by rw [List.length_map, Nat.mul_one], ?_⟩
  rcases h.2 with ⟨he, h0⟩ | ⟨g, cap, cur, he, hg, hb, h1, h2, h3, h4⟩
  · simp only [Value.slice.injEq] at he
    obtain ⟨rfl, h0', rfl⟩ := he
    left
    have : k = 0 := by omega
    subst this
    exact ⟨by simp [cutA], by simp⟩
  · simp only [Value.slice.injEq] at he
    obtain ⟨rfl, _, rfl⟩ := he
    right
    refine ⟨g, c, cur, ?_, hg, hb, by omega, h2, h3, ?_⟩
    · unfold cutA
      split <;> simp [Go.WideShapes.add_plain]
    · rw [Nat.mul_one] at h4 ⊢
      rw [hlen, List.map_take, ← h4, List.take_take, Nat.min_eq_left hk]
theorem ref_Order {A : Option Addr} {c : Nat} (many : Int) (hm : I64 many) (s : Nat) (hs : s < 2 ^ 64) (n : List Int) (hn : n.length ≤ 1000) (un : ∀ x ∈ n, I64 x) (w : World) (ra : Rd (Value.int .i64) w w.heap.size A n) :
    Calls Try.prog 18 #[.int .i64 many, .int .u64 (s : Int), .slice A n.length c] w (OwnE 3 .i64 w.heap.size (ordV many s n) (ordE many) w) := by
  unfold I64 at hm
  by_cases h1 : many < 0
  · have he : ordE many = 1 := if_pos h1
    have hv : ordV many s n = [] := if_neg (by rw [he]; decide)
    rw [he, hv]
    clear he hv ra un
    go_enter Try.func18, Try.ntmps18
    go_wp2_with fail
    go_ret2
    exact .nil (Below.refl _ _)
  · by_cases h2 : 4096 < many
    · have he : ordE many = 3 := by unfold ordE; rw [if_neg h1, if_pos h2]
      have hv : ordV many s n = [] := if_neg (by rw [he]; decide)
      rw [he, hv]
      clear he hv ra un
      go_enter Try.func18, Try.ntmps18
      go_wp2_with fail
      go_ret2
      exact .nil (Below.refl _ _)
    · obtain ⟨M, rfl⟩ := Int.eq_ofNat_of_zero_le (show 0 ≤ many by omega)
      have hM : M ≤ 4096 := by omega
      have he : ordE (M : Int) = 0 := ordE_ok.2 (by omega)
      rw [he]
      have HV := hid (ordV_eq hM s n)
      obtain ⟨V, hV⟩ : ∃ V, ordV (M : Int) s n = V := ⟨_, rfl⟩
      rw [hV] at HV ⊢
      have HF : Hid (shF (plN s n) (M - 1) (fun x => x) = orF M s n) := rfl
      obtain ⟨F, hF⟩ : ∃ F, orF M s n = F := ⟨_, rfl⟩
      rw [hF] at HF HV
      have hmk := fun W => run_make_row' (P := Try.prog) 23 3 (.int .i64 0) 8 Try.underlying23 info_int rfl .i64 .i64 M (by omega) (by omega) W
      have HA := hid ra
      have UN := hid un
      clear ra un he hV hF h1 h2
      go_enter Try.func18, Try.ntmps18
      go_wp2_with fail
      go_loopw [9, 22] (fun x9 i wr => ∃ k : Nat, k ≤ M ∧ i = .int .i64 k ∧ wr.rowIs w.heap.size 3 M (fun j => .int .i64 (if j < k then (j : Int) else 0)) ∧ Below w.heap.size w wr) (fun _ i _ => M - (intOf i).toNat)
      case atStart => exact ⟨0, by omega, rfl, by simpa using World.rowIs_made w (.int .i64 0) M _, by go_grown⟩
      case round =>
        clear hmk
        obtain ⟨k, hk, rfl, hrow, hbel⟩ := hrel
        have HR := hid hrow
        by_cases hlt : k < M
        · have f1 := hrow.frozen k
          have c3 := hrow.cell hlt
          clear hrow
          go_wp2_with fail
          first | go_region | skip
          go_wp2_with fail
          go_roundw
          case rel =>
            refine ⟨k + 1, by omega, by go_num, ?_, hbel.setCell (Nat.le_refl _) _⟩
            refine World.rowIs.congr (HR.out.set k (.int .i64 k)) fun j hj => ?_
            by_cases e : j = k
            · rw [if_pos e, if_pos (by omega), e]
            · by_cases e2 : j < k
              · rw [if_neg e, if_pos e2, if_pos (by omega)]
              · rw [if_neg e, if_neg e2, if_neg (by omega)]
          case measure => simp [intOf]; omega
        · have HR0 : Hid (wr.rowIs w.heap.size 3 M (fun j => .int .i64 ((((fun x => x) j : Nat)) : Int))) := hid (hrow.congr fun j hj => by rw [if_pos (by omega)])
          clear hrow HR
          have hM' : (M : Int) ≤ 4096 := by omega
          have HB := hid hbel
          go_wp2_with fail
          go_loopw [10, 11, 12, 13] (fun i x11 x12 x13 wr => ∃ (u : Int) (g : Nat → Nat), -1 ≤ u ∧ u < M ∧ u ≤ 4095 ∧ i = .int .i64 u ∧ wr.rowIs w.heap.size 3 M (fun j => .int .i64 (g j : Int)) ∧ shF (plN s n) u.toNat g = F ∧ Below w.heap.size w wr) (fun i _ _ _ _ => (intOf i).toNat)
          case atStart => exact ⟨(M : Int) - 1, fun x => x, by omega, by omega, by omega, rfl, HR0.out, by rw [show ((M : Int) - 1).toNat = M - 1 by omega]; exact HF.out, HB.out⟩
          case round =>
            clear HR0 HB hbel
            obtain ⟨u, g, hu0, hu1, hu2, rfl, hrow, hg, hbel⟩ := hrel
            have HG := hid hg
            clear hg
            by_cases hlt : 1 ≤ u
            · obtain ⟨m, rfl⟩ := Int.eq_ofNat_of_zero_le (show 0 ≤ u by omega)
              rw [Int.toNat_natCast] at HG
              have hm1 : 1 ≤ m := by omega
              have hmM : m < M := by omega
              have HG2 := hid ((shF_down hm1 g).symm.trans HG.out)
              clear HG
              have hpl := plN_le s n m
              have HP : Hid (belV (m + 1) s (n ++ [(m : Int)]) = plN s n m) := hid (if_neg (by omega))
              obtain ⟨p, hp⟩ : ∃ p, plN s n m = p := ⟨_, rfl⟩
              rw [hp] at hpl HP HG2
              clear hp
              have e2 : IntKind.u64.wrap ((m : Int) + 1) = ((m + 1 : Nat) : Int) := by rw [IntKind.wrap_u64]; omega
              clear hlt
              have HBL := hid hbel
              have hsz := hbel.size
              have raw := HA.out.below hbel
              go_wp2_with (at_builtin; refine wpList_app (Value.int .i64) (fun _ => rfl) _ rfl _ _ 23 rfl wr.heap.size 3 (.int .i64 0) 8 Try.underlying23 info_int rfl [] none 0 rfl (own_nil _ _ _) n A c w.heap.size rfl raw (by simp [maxLen]; omega) (by simp; omega) (Nat.le_refl _) ?_)
              rintro S A1 c1 w1 hS ho1 hb1 hg1
              obtain rfl := hS
              have hk1 : Below w1.heap.size w1 (w1.alloc (.cells #[.int .i64 (m : Int)] 3)) := by go_grown
              have ho1a := own_on ho1 hk1
              have hb1a := hb1.trans (hk1.mono hb1.size)
              have hz1 := hb1a.size
              have rm := rd_new (enc := Value.int .i64) w1 3 [(m : Int)]
              clear ho1 hk1 raw
              go_wp2_with (at_builtin; refine wpList_app (Value.int .i64) (fun _ => rfl) _ rfl _ _ 23 rfl wr.heap.size 3 (.int .i64 0) 8 Try.underlying23 info_int rfl S A1 c1 rfl ho1a [(m : Int)] (some ⟨w1.heap.size, 0, none⟩) 1 _ rfl rm (by simp [maxLen]; omega) (by simp; omega) hz1 ?_)
              rintro S2 A2 c2 w2 hS2 ho2 hb2 _
              have hbw := hb1a.trans hb2
              have CB := hid (ref_Below (c := c2) (m + 1) s (by omega) hs S2 (by rw [hS2]; simp; omega) (by
                rw [hS2]
                intro x hx
                rcases List.mem_append.1 hx with hx | hx
                · exact UN.out x hx
                · simp at hx; subst hx; unfold I64; omega) w2 (own_rd ho2))
              rw [hS2, HP.out, show belE (m + 1) = 0 from if_neg (by omega), ← hS2] at CB
              have hrow2 := hrow.of_block (hbw.block _ hrow.lt)
              have hbel2 := hbel.trans (hbw.mono hsz)
              have HBW := hid hbel2
              have HROW := hid hrow2
              have ci := hrow2.cell hmM
              have cp := hrow2.cell (show p < M by omega)
              have fi := hrow2.frozen m
              have fp := hrow2.frozen p
              have hpM : (p : Int) < (M : Int) := by omega
              obtain ⟨x, hx⟩ : ∃ x, g m = x := ⟨_, rfl⟩
              obtain ⟨y, hy⟩ : ∃ y, g p = y := ⟨_, rfl⟩
              rw [hx] at ci
              rw [hy] at cp
              obtain ⟨v', hy'⟩ := cell?_setCell_some (w := w2) (p := ⟨w.heap.size, m, none⟩) (x := .int .i64 (y : Int)) (q := ⟨w.heap.size, p, none⟩) (v := .int .i64 (y : Int)) cp
              have HX := hid hx
              have HY := hid hy
              clear hx hy hbw hrow2 hbel2 hbel hrow hb1 hb1a hb2 ho1a ho2 rm hS2 hz1
              go_wp2_with fail
              refine CB.out.mono ?_
              rintro _ _ ⟨rfl, rfl⟩
              go_wp2_with fail
              go_roundw
              case rel =>
                refine ⟨(m : Int) - 1, swF g m p, by omega, by omega, by omega, rfl, ?_, by rw [show ((m : Int) - 1).toNat = m - 1 by omega]; exact HG2.out, ((HBW.out.setCell (Nat.le_refl _) _).setCell (Nat.le_refl _) _)⟩
                refine World.rowIs.congr (((HROW.out.set m (.int .i64 (y : Int))).set p (.int .i64 (x : Int)))) fun j hj => ?_
                unfold swF
                by_cases e1 : j = p
                · rw [if_pos e1, if_pos e1, HX.out]
                · by_cases e2 : j = m
                  · rw [if_neg e1, if_neg e1, if_pos e2, if_pos e2, HY.out]
                  · rw [if_neg e1, if_neg e1, if_neg e2, if_neg e2]
              case measure => simp [intOf]; omega
            · go_wp2_with fail
              go_ret2
              have hu : u.toNat = 0 := by omega
              rw [hu] at HG
              have hgF : g = F := HG.out
              subst hgF
              have hl : V.length = M := by rw [HV.out]; simp
              exact ⟨_, _, by rw [hl]; rfl, own_ord hrow (Nat.le_refl _) hM HV.out, hbel⟩
theorem ref_Pick {A : Option Addr} {c : Nat} (many of : Int) (hm : I64 many) (hf : I64 of) (s : Nat) (hs : s < 2 ^ 64) (n : List Int) (hn : n.length ≤ 1000) (un : ∀ x ∈ n, I64 x) (w : World) (ra : Rd (Value.int .i64) w w.heap.size A n) :
    Calls Try.prog 20 #[.int .i64 many, .int .i64 of, .int .u64 (s : Int), .slice A n.length c] w (OwnE 3 .i64 w.heap.size (picV many of s n) (picE many of) w) := by
  have C := hid (ref_Order (c := c) of hf s hs n hn un w ra)
  unfold I64 at hm hf
  clear ra un
  by_cases h1 : many < 0
  · have he : picE many of = 1 := if_pos (.inl h1)
    have hv : picV many of s n = [] := if_neg (by rw [he]; decide)
    rw [he, hv]
    clear he hv C
    go_enter Try.func20, Try.ntmps20
    go_wp2_with fail
    go_ret2
    exact .nil (Below.refl _ _)
  · by_cases h2 : of < many
    · have he : picE many of = 1 := if_pos (.inr h2)
      have hv : picV many of s n = [] := if_neg (by rw [he]; decide)
      rw [he, hv]
      clear he hv C
      go_enter Try.func20, Try.ntmps20
      go_wp2_with fail
      go_ret2
      exact .nil (Below.refl _ _)
    · have he : picE many of = ordE of := if_neg (fun h => h.elim h1 h2)
      by_cases h3 : ordE of = 0
      · have hv : picV many of s n = (ordV of s n).take many.toNat := if_pos (he.trans h3)
        have hl := ordV_len h3 s n
        have h4 := (ordE_ok.1 h3).2
        obtain ⟨m, rfl⟩ := Int.eq_ofNat_of_zero_le (show 0 ≤ many by omega)
        rw [Int.toNat_natCast] at hv
        rw [he, hv, h3]
        rw [h3] at C
        obtain ⟨L, hL⟩ : ∃ L, ordV of s n = L := ⟨_, rfl⟩
        rw [hL] at C hl ⊢
        have hmL : m ≤ L.length := by omega
        have hlen : (L.take m).length = m := by rw [List.length_take]; omega
        have HLEN := hid hlen
        clear he hv h3 hL hl hlen
        go_enter Try.func20, Try.ntmps20
        go_wp2_with fail
        refine C.out.mono ?_
        rintro _ w1 ⟨A1, c1, rfl, ho, hb⟩
        have hcap := own_cap ho
        have hsl := fun W => run_upto (P := Try.prog) 23 Try.underlying23 Try.sizeOf3 A1 L.length c1 m (by omega) W
        have hoc := hid (own_cut (k := m) ho hmL)
        have HB := hid hb
        clear C ho hb
        go_wp2_with fail
        go_ret2
        exact ⟨cutA A1 0 c1, c1, by rw [HLEN.out]; rfl, hoc.out, HB.out⟩
      · have hv : picV many of s n = [] := if_neg (by rw [he]; exact h3)
        have hv2 : ordV of s n = [] := if_neg h3
        rw [he, hv]
        rw [hv2] at C
        obtain ⟨E, hE⟩ : ∃ E, ordE of = E := ⟨_, rfl⟩
        rw [hE] at C h3 ⊢
        have hne : (E != 0) = true := by simpa using h3
        clear he hv hv2 hE h3
        go_enter Try.func20, Try.ntmps20
        go_wp2_with fail
        refine C.out.mono ?_
        rintro _ w1 ⟨A1, c1, rfl, ho, hb⟩
        go_wp2_with fail
        go_ret2
        exact .nil hb
end Go.Proofs.Ytjkdmpegdgkdfaa
