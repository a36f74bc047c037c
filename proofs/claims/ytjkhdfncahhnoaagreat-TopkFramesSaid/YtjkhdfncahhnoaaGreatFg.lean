
/- Fg: texts joined: FsG FsL FrD FrE FsQ FsD FrF FsS FsT FsU FsV FrK FsZ TkLv. -/
import Derived.Test.YtjkhdfncahhnoaaGreatFa
import Derived.Test.YtjkhdfncahhnoaaGreatFFsC
import Derived.Test.YtjkhdfncahhnoaaGreatFb
import Derived.Test.YtjkhdfncahhnoaaGreatFe
import Derived.Test.YtjkhdfncahhnoaaGreatFd
import Derived.Deep.RegionHeld3
import Derived.Test.YtjkhdfncahhnoaaGreatFFrC
import Derived.Deep.RegionLaw
import Derived.Test.YtjkhdfncahhnoaaGreatFc
import Derived.BigQuiet
import Derived.Test.YtjkhdfncahhnoaaGreatFPlP
import Derived.Test.YtjkhdfncahhnoaaGreatFTkS
/- The parts of a vector's body, by the program. -/
namespace Go.Proofs.YtjkhdfncahhnoaaGreat
open Go.RowKit
set_option maxHeartbeats 1000000
set_option maxRecDepth 100000
set_option linter.unusedVariables false
theorem held8 {w W w1 : World} {g : Nat} {a b c d e f i j : Value} (h : W.cell? ⟨g, 0, none⟩ = some a ∧ W.cell? ⟨g, 1, none⟩ = some b ∧ W.cell? ⟨g, 2, none⟩ = some c ∧ W.cell? ⟨g, 3, none⟩ = some d ∧ W.cell? ⟨g, 4, none⟩ = some e ∧ W.cell? ⟨g, 5, none⟩ = some f ∧ W.cell? ⟨g, 6, none⟩ = some i ∧ W.cell? ⟨g, 7, none⟩ = some j ∧ Below w.heap.size w W) (hb : Below W.heap.size W w1) : w1.cell? ⟨g, 0, none⟩ = some a ∧ w1.cell? ⟨g, 1, none⟩ = some b ∧ w1.cell? ⟨g, 2, none⟩ = some c ∧ w1.cell? ⟨g, 3, none⟩ = some d ∧ w1.cell? ⟨g, 4, none⟩ = some e ∧ w1.cell? ⟨g, 5, none⟩ = some f ∧ w1.cell? ⟨g, 6, none⟩ = some i ∧ w1.cell? ⟨g, 7, none⟩ = some j ∧ Below w.heap.size w w1 := by
  obtain ⟨h0, h1, h2, h3, h4, h5, h6, h7, h8⟩ := h
  have hg := lt_of_cell h0
  exact ⟨(hb.cell (p := ⟨g, 0, none⟩) hg).trans h0, (hb.cell (p := ⟨g, 1, none⟩) hg).trans h1, (hb.cell (p := ⟨g, 2, none⟩) hg).trans h2, (hb.cell (p := ⟨g, 3, none⟩) hg).trans h3, (hb.cell (p := ⟨g, 4, none⟩) hg).trans h4, (hb.cell (p := ⟨g, 5, none⟩) hg).trans h5, (hb.cell (p := ⟨g, 6, none⟩) hg).trans h6, (hb.cell (p := ⟨g, 7, none⟩) hg).trans h7, h8.trans (hb.mono h8.size)⟩
theorem heldB {w W : World} {g : Nat} {a b c d e f i j : Value} (h : W.cell? ⟨g, 0, none⟩ = some a ∧ W.cell? ⟨g, 1, none⟩ = some b ∧ W.cell? ⟨g, 2, none⟩ = some c ∧ W.cell? ⟨g, 3, none⟩ = some d ∧ W.cell? ⟨g, 4, none⟩ = some e ∧ W.cell? ⟨g, 5, none⟩ = some f ∧ W.cell? ⟨g, 6, none⟩ = some i ∧ W.cell? ⟨g, 7, none⟩ = some j ∧ Below w.heap.size w W) : Below w.heap.size w W := h.2.2.2.2.2.2.2.2
theorem growd (w : World) (o : Obj) : Below w.heap.size w (w.alloc o) := (Below.refl _ _).alloc (Nat.le_refl _) _
theorem wx_scale (s : SentV) (p : SentP) (h0 : 0 ≤ s.scale) (h1 : s.scale ≤ 9223372036854775807) (w : World) :
    Calls Tryz.prog 62 #[encT s p] w (OwnOf 5 .u8 w.heap.size (lebI s.scale) w) := by
  have CP : Hid (∀ (g : Nat) (W : World), W.cell? ⟨g, 0, none⟩ = some (.int .u64 s.scale) → Calls Tryz.prog 16 #[.slice none 0 0, .slice (some ⟨g, 0, none⟩) 1 1] W (OwnOf 5 .u8 W.heap.size (lebI s.scale) W)) := hid (fun g W h => by
    have h2 := leb_Put (A := none) (B := some ⟨g, 0, none⟩) (c := 0) (d := 1) [] [s.scale] (by simp) (by simp) (by intro x hx; simp at hx; subst hx; unfold U64; omega) W Rd.none_ (rd_one h)
    rw [List.nil_append, encs_one] at h2
    exact h2)
  obtain ⟨X, hX⟩ : ∃ X, lebI s.scale = X := ⟨_, rfl⟩
  rw [hX] at CP ⊢
  clear hX
  go_enter Tryz.func62, Tryz.ntmps62
  go_wp2_with fail
  refine (CP.out _ _ (by simp [go_sem])).mono ?_
  rintro _ w1 ⟨A1, d1, rfl, ho1, hb1⟩
  have HO := hid (own_base ho1 (show w.heap.size ≤ _ by simp; omega))
  clear ho1
  go_wp2_with fail
  go_ret
  exact ⟨A1, d1, rfl, HO.out, Below.trans (by go_grown) (hb1.mono (by simp; omega))⟩
theorem wx_dense (s : SentV) (p : SentP) (hn : lnS 5000 s) (hw : wfS s) (w : World) (ra : RdS w w.heap.size s p) :
    Calls Tryz.prog 37 #[encT s p] w (OwnOf 5 .u8 w.heap.size (sgnd s.V) w) := by
  have CP : Hid (∀ (W : World), Below w.heap.size w W → Calls Tryz.prog 59 #[.slice none 0 0, .slice p.AV s.V.length p.cV] W (OwnOf 5 .u8 W.heap.size (sgnd s.V) W)) := hid (fun W h => by
    have h2 := leb_Signed (A := none) (B := p.AV) (c := 0) (d := p.cV) [] s.V (by simp) hn.2.1 hw.2.2.2.1 W Rd.none_ ((ra.2.1.below h).more h.size)
    rw [List.nil_append] at h2
    exact h2)
  obtain ⟨X, hX⟩ : ∃ X, sgnd s.V = X := ⟨_, rfl⟩
  rw [hX] at CP ⊢
  clear hX ra hn hw
  go_enter Tryz.func37, Tryz.ntmps37
  go_wp2_with fail
  refine (CP.out _ (by go_grown)).mono ?_
  rintro _ w1 ⟨A1, d1, rfl, ho1, hb1⟩
  have HO := hid (own_base ho1 (show w.heap.size ≤ _ by simp))
  clear ho1
  go_wp2_with fail
  go_ret
  exact ⟨A1, d1, rfl, HO.out, Below.trans (by go_grown) (hb1.mono (by simp))⟩
theorem wx_sgns (s : SentV) (p : SentP) (hn : lnS 5000 s) (w : World) (ra : RdS w w.heap.size s p) :
    Calls Tryz.prog 63 #[encT s p] w (OwnOf 5 .u8 w.heap.size (sgnV s.neg) w) := by
  have CP := hid (fun W (h : Below w.heap.size w W) => pl_Signs (A := p.AN) (c := p.cN) s.neg (by have := hn.2.2.2; omega) W ((ra.2.2.2.below h).more h.size))
  obtain ⟨X, hX⟩ : ∃ X, sgnV s.neg = X := ⟨_, rfl⟩
  obtain ⟨E, hE⟩ : ∃ X, sgnE s.neg = X := ⟨_, rfl⟩
  rw [hX, hE] at CP
  rw [hX]
  clear hX hE ra hn
  go_enter Tryz.func63, Tryz.ntmps63
  go_wp2_with fail
  refine (CP.out _ (by go_grown)).mono ?_
  rintro _ w1 ⟨A1, d1, rfl, ho1, hb1⟩
  have HO := hid (own_base ho1 (show w.heap.size ≤ _ by simp))
  clear ho1
  go_wp2_with fail
  go_ret
  exact ⟨A1, d1, rfl, HO.out, Below.trans (by go_grown) (hb1.mono (by simp))⟩
theorem wx_top (s : SentV) (p : SentP) (hn : lnS 5000 s) (hw : wfS s) (w : World) (ra : RdS w w.heap.size s p) :
    Calls Tryz.prog 38 #[encT s p] w (OwnOf 5 .u8 w.heap.size (pixV s.dim s.L ++ sgnd s.V) w) := by
  have CI := hid (fun W (h : Below w.heap.size w W) => ix_Put (A := p.AL) (c := p.cL) s.dim s.L hw.2.1 (by have := hn.1; omega) W ((ra.1.below h).more h.size))
  have CP := hid (fun A c W (h : Below w.heap.size w W) (hr : Rd (Value.int .u8) W W.heap.size A (pixV s.dim s.L)) => leb_Signed (A := A) (B := p.AV) (c := c) (d := p.cV) (pixV s.dim s.L) s.V (by have := pixV_len s.dim s.L; omega) hn.2.1 hw.2.2.2.1 W hr ((ra.2.1.below h).more h.size))
  have hR : pixV s.dim s.L ++ encs (s.V.map zigI) = pixV s.dim s.L ++ sgnd s.V := rfl
  rw [hR] at CP
  obtain ⟨R, hRR⟩ : ∃ R, pixV s.dim s.L ++ sgnd s.V = R := ⟨_, rfl⟩
  rw [hRR] at CP ⊢
  obtain ⟨X, hX⟩ : ∃ X, pixV s.dim s.L = X := ⟨_, rfl⟩
  obtain ⟨E, hE⟩ : ∃ X, chkE s.dim s.L = X := ⟨_, rfl⟩
  rw [hX] at CP
  rw [hX, hE] at CI
  have HB0 := hid (boxT_new w s p 53)
  clear hR hRR hX hE ra hn hw
  go_enter Tryz.func38, Tryz.ntmps38
  go_wp2_with fail
  refine (CI.out _ (by go_grown)).mono ?_
  rintro _ w1 ⟨A1, d1, rfl, ho1, hb1⟩
  have k1 : Below w.heap.size w w1 := Below.trans (by go_grown) (hb1.mono (by simp))
  have HB1 := hid (HB0.out.below hb1 (by simp))
  have HR1 := hid (own_rd ho1)
  obtain ⟨⟨c0, c1, c2, c3, c4, c5, c6, c7⟩, _⟩ := HB1.out.eight
  clear hb1 HB0 ho1
  go_wp2_with fail
  refine (CP.out _ _ _ k1 HR1.out).mono ?_
  rintro _ w2 ⟨A2, d2, rfl, ho2, hb2⟩
  have HO := hid (own_base ho2 k1.size)
  clear ho2
  go_wp2_with fail
  go_ret
  exact ⟨A2, d2, rfl, HO.out, k1.trans (hb2.mono k1.size)⟩
theorem wx_sign (s : SentV) (p : SentP) (hn : lnS 5000 s) (h0 : 0 ≤ s.scale) (h1 : s.scale ≤ 9223372036854775807) (w : World) (ra : RdS w w.heap.size s p) :
    Calls Tryz.prog 40 #[encT s p] w (OwnOf 5 .u8 w.heap.size (lebI s.scale ++ sgnV s.neg) w) := by
  have CSc := hid (fun W => wx_scale s p h0 h1 W)
  have CSg := hid (fun W (h : Below w.heap.size w W) => wx_sgns s p hn W ((ra.1.below h).more h.size |> fun a => ⟨a, (ra.2.1.below h).more h.size, (ra.2.2.1.below h).more h.size, (ra.2.2.2.below h).more h.size⟩))
  have l1 := lebI_ten (n := s.scale) (by unfold U64; omega)
  have l2 : (sgnV s.neg).length ≤ 1000 := by
    by_cases h : s.neg.length ≤ 4096
    · rw [sgnV_len h]; omega
    · unfold sgnV; rw [if_pos (by omega)]; simp
  obtain ⟨X, hX⟩ : ∃ X, lebI s.scale = X := ⟨_, rfl⟩
  obtain ⟨Y, hY⟩ : ∃ X, sgnV s.neg = X := ⟨_, rfl⟩
  rw [hX] at CSc l1
  rw [hY] at CSg l2
  rw [hX, hY]
  have CC : Hid (∀ (A : Option Addr) (c : Nat) (W : World), Below w.heap.size w W → RdRow8 W W.heap.size A [X, Y] → Calls Tryz.prog 42 #[.slice A 2 c] W fun e w' => ∃ A3 d3, e = .returned (.slice A3 (X ++ Y).length d3) ∧ w'.ownsRow w.heap.size 5 1 (.slice A3 (X ++ Y).length d3) (X ++ Y).length ((X ++ Y).map (Value.int .u8)) ∧ Below W.heap.size W w') := hid (fun A c W h hr => by
    have hh := by_concat (A := A) (c := c) [X, Y] (by simp) (by simp; omega) W hr
    simp only [List.flatten_cons, List.flatten_nil, List.append_nil] at hh
    exact hh.mono fun _ _ ⟨A3, d3, e1, e2, e3⟩ => ⟨A3, d3, e1, own_base e2 h.size, e3⟩)
  obtain ⟨R, hR⟩ : ∃ R, X ++ Y = R := ⟨_, rfl⟩
  rw [hR] at CC ⊢
  clear hX hY hR ra hn l1 l2
  go_enter Tryz.func40, Tryz.ntmps40
  go_wp2_with fail
  go_region_held3 (fun w' => w'.cell? ⟨w.heap.size, 0, none⟩ = some (.int .i64 s.sch) ∧ w'.cell? ⟨w.heap.size, 1, none⟩ = some (.int .i64 s.dim) ∧ w'.cell? ⟨w.heap.size, 2, none⟩ = some (.slice p.AL s.L.length p.cL) ∧ w'.cell? ⟨w.heap.size, 3, none⟩ = some (.slice p.AV s.V.length p.cV) ∧ w'.cell? ⟨w.heap.size, 4, none⟩ = some (.int .i64 s.scale) ∧ w'.cell? ⟨w.heap.size, 5, none⟩ = some (.int .i64 s.wide) ∧ w'.cell? ⟨w.heap.size, 6, none⟩ = some (.slice p.AE s.lev.length p.cE) ∧ w'.cell? ⟨w.heap.size, 7, none⟩ = some (.slice p.AN s.neg.length p.cN) ∧ Below w.heap.size w w') (first | exact ⟨by simp [go_sem], by simp [go_sem], by simp [go_sem], by simp [go_sem], by simp [go_sem], by simp [go_sem], by simp [go_sem], by simp [go_sem], by go_grown⟩ | exact held8 (by assumption) hb3 | exact held8 (by assumption) hb2 | exact held8 (by assumption) hb1 | exact held8 (by assumption) (growd _ _))
    (first | (go_at_call 62; refine (CSc.out _).mono ?_; rintro _ w1 ⟨A1, d1, rfl, ho1, hb1⟩) | (go_at_call 63; refine (CSg.out _ (heldB (by assumption))).mono ?_; rintro _ w2 ⟨A2, d2, rfl, ho2, hb2⟩) | (go_at_call 42; refine (CC.out _ _ _ (heldB (by assumption)) (row8_two X Y _ (own_rd (own_on ho1 hb2)) (own_rd ho2) _)).mono ?_; rintro _ w3 ⟨A3, d3, rfl, ho3, hb3⟩))
  all_goals
    have HO := hid ho3
    clear ho1 ho2 ho3
    go_wp2_with fail
    go_ret
    exact ⟨A3, d3, rfl, HO.out, heldB (by assumption)⟩
end Go.Proofs.YtjkhdfncahhnoaaGreat
/- A vector's body with levels, by the program. -/
namespace Go.Proofs.YtjkhdfncahhnoaaGreat
open Go.RowKit
set_option maxHeartbeats 1000000
set_option maxRecDepth 100000
set_option linter.unusedVariables false
theorem row8_fourG {A1 A2 A3 A4 : Option Addr} {c1 c2 c3 c4 g : Nat} (x1 x2 x3 x4 : List Int) (W : World) (r1 : Rd (Value.int .u8) W W.heap.size A1 x1) (r2 : Rd (Value.int .u8) W W.heap.size A2 x2) (r3 : Rd (Value.int .u8) W W.heap.size A3 x3) (r4 : Rd (Value.int .u8) W W.heap.size A4 x4) (t : TypeId) (hg : g = W.heap.size) :
    RdRow8 (W.alloc (.cells #[.slice A1 x1.length c1, .slice A2 x2.length c2, .slice A3 x3.length c3, .slice A4 x4.length c4] t)) (W.alloc (.cells #[.slice A1 x1.length c1, .slice A2 x2.length c2, .slice A3 x3.length c3, .slice A4 x4.length c4] t)).heap.size (some ⟨g, 0, none⟩) [x1, x2, x3, x4] := by
  subst hg
  exact row8_four x1 x2 x3 x4 W r1 r2 r3 r4 t
theorem wx_level (s : SentV) (p : SentP) (hn : lnS 5000 s) (hw : wfS s) (h0 : 0 ≤ s.scale) (h1 : 1 ≤ s.wide) (h8 : s.wide ≤ 8) (hl4 : s.lev.length ≤ 4096) (hf : fitsB s.wide s.lev = true) (w : World) (ra : RdS w w.heap.size s p) :
    Calls Tryz.prog 39 #[encT s p] w (OwnOf 5 .u8 w.heap.size (lebI s.scale ++ ((s.wide :: wevV s.wide s.lev) ++ sgnV s.neg)) w) := by
  have hsc : I64 s.scale := hw.2.2.2.2.1
  have hwd : I64 s.wide := hw.2.2.2.2.2.1
  unfold I64 at hsc
  have CSc := hid (fun W => wx_scale s p h0 hsc.2 W)
  have CSg := hid (fun W (h : Below w.heap.size w W) => wx_sgns s p hn W ⟨(ra.1.below h).more h.size, (ra.2.1.below h).more h.size, (ra.2.2.1.below h).more h.size, (ra.2.2.2.below h).more h.size⟩)
  have CWv := hid (fun W (h : Below w.heap.size w W) => pl_Weave (A := p.AE) (c := p.cE) s.wide s.lev hwd (by omega) hw.2.2.2.2.2.2 W ((ra.2.2.1.below h).more h.size))
  have hb8 : bysE s.wide s.lev.length = 0 := by unfold bysE; rw [if_neg (by omega), if_neg (by omega)]
  have hme : mayE s.wide s.lev = 0 := by unfold mayE; rw [if_pos hb8, if_pos hf]
  rw [hme] at CWv
  have hwl := ((may_same s.wide s.lev).2 hme).2
  have hwl2 : (wevV s.wide s.lev).length ≤ 5000 := by
    have h9 : s.wide.toNat * s.lev.length ≤ 8 * 4096 := Nat.mul_le_mul (by omega) (by omega)
    rw [hwl]; omega
  have l1 := lebI_ten (n := s.scale) (by unfold U64; omega)
  have l2 : (sgnV s.neg).length ≤ 1000 := by
    by_cases h : s.neg.length ≤ 4096
    · rw [sgnV_len h]; omega
    · unfold sgnV; rw [if_pos (by omega)]; simp
  obtain ⟨X, hX⟩ : ∃ X, lebI s.scale = X := ⟨_, rfl⟩
  obtain ⟨NV, hY⟩ : ∃ X, sgnV s.neg = X := ⟨_, rfl⟩
  obtain ⟨WV, hV⟩ : ∃ X, wevV s.wide s.lev = X := ⟨_, rfl⟩
  rw [hX] at CSc l1
  rw [hY] at CSg l2
  rw [hV] at CWv hwl2
  rw [hX, hY, hV]
  obtain ⟨R, hR⟩ : ∃ R, X ++ ((s.wide :: WV) ++ NV) = R := ⟨_, rfl⟩
  have CC : Hid (∀ (A : Option Addr) (c : Nat) (W : World), Below w.heap.size w W → RdRow8 W W.heap.size A [X, [s.wide], WV, NV] → Calls Tryz.prog 42 #[.slice A 4 c] W fun e w' => ∃ A3 d3, e = .returned (.slice A3 R.length d3) ∧ w'.ownsRow w.heap.size 5 1 (.slice A3 R.length d3) R.length (R.map (Value.int .u8)) ∧ Below W.heap.size W w') := hid (fun A c W h hr => by
    have hh := by_concat (A := A) (c := c) [X, [s.wide], WV, NV] (by simp) (by simp; omega) W hr
    have e : [X, [s.wide], WV, NV].flatten = R := by rw [← hR]; simp
    rw [e] at hh
    exact hh.mono fun _ _ ⟨A3, d3, e1, e2, e3⟩ => ⟨A3, d3, e1, own_base e2 h.size, e3⟩)
  have HB0 := hid (boxT_new w s p 53)
  have hwb : s.wide % 256 = s.wide := by omega
  have hwb2 : IntKind.u8.wrap s.wide = s.wide := by rw [IntKind.wrap_u8]; omega
  rw [hR]
  clear hwb hX hY hV hR ra hn l1 l2 hwl hwl2 hb8 hme hf hw hwd
  go_enter Tryz.func39, Tryz.ntmps39
  go_wp2_with fail
  refine (CWv.out _ (by go_grown)).mono ?_
  rintro _ w0 ⟨AW, dW, rfl, ho0, hb0⟩
  have k0 : Below w.heap.size w w0 := Below.trans (by go_grown) (hb0.mono (by simp))
  have HB1 := hid (HB0.out.below hb0 (by simp))
  have HRW : Hid (Rd (Value.int .u8) w0.drew w0.drew.heap.size AW WV) := hid (own_rd ho0)
  clear hb0 HB0 ho0 CWv
  go_wp2_with fail
  obtain ⟨⟨c0, c1, c2, c3, c4, c5, c6, c7⟩, _⟩ := HB1.out.eight
  go_region_held3 (fun w' => w'.cell? ⟨w.heap.size, 0, none⟩ = some (.int .i64 s.sch) ∧ w'.cell? ⟨w.heap.size, 1, none⟩ = some (.int .i64 s.dim) ∧ w'.cell? ⟨w.heap.size, 2, none⟩ = some (.slice p.AL s.L.length p.cL) ∧ w'.cell? ⟨w.heap.size, 3, none⟩ = some (.slice p.AV s.V.length p.cV) ∧ w'.cell? ⟨w.heap.size, 4, none⟩ = some (.int .i64 s.scale) ∧ w'.cell? ⟨w.heap.size, 5, none⟩ = some (.int .i64 s.wide) ∧ w'.cell? ⟨w.heap.size, 6, none⟩ = some (.slice p.AE s.lev.length p.cE) ∧ w'.cell? ⟨w.heap.size, 7, none⟩ = some (.slice p.AN s.neg.length p.cN) ∧ Below w.heap.size w w') (first | exact ⟨c0, c1, c2, c3, c4, c5, c6, c7, k0.drew⟩ | exact held8 (by assumption) hb3 | exact held8 (by assumption) hb2 | exact held8 (by assumption) hb1 | exact held8 (by assumption) (growd _ _))
    (first | (go_at_call 62; refine (CSc.out _).mono ?_; rintro _ w1 ⟨A1, d1, rfl, ho1, hb1⟩) | (go_at_call 63; refine (CSg.out _ (heldB (by assumption))).mono ?_; rintro _ w2 ⟨A2, d2, rfl, ho2, hb2⟩) | (go_at_call 42; (with_reducible have e0 := hb2); (with_reducible have e00 : Below (w0.alloc (.cells #[.int .u8 s.wide] 5)).drew.heap.size (w0.alloc (.cells #[.int .u8 s.wide] 5)).drew w1 := hb1); have r2 := ((show Rd (Value.int .u8) (w0.alloc (.cells #[.int .u8 s.wide] 5)).drew (w0.alloc (.cells #[.int .u8 s.wide] 5)).drew.heap.size (some ⟨w0.heap.size, 0, none⟩) [s.wide] from rd_one (enc := Value.int .u8) (one_cell w0 (.int .u8 s.wide) 5).1).on hb1).on hb2; have r1 := own_rd (own_on ho1 hb2); have r3 := ((show Rd (Value.int .u8) (w0.alloc (.cells #[.int .u8 s.wide] 5)).drew (w0.alloc (.cells #[.int .u8 s.wide] 5)).drew.heap.size AW WV from (show Rd (Value.int .u8) w0 w0.heap.size AW WV from HRW.out).on (growd w0 (.cells #[.int .u8 s.wide] 5)).drew).on hb1).on hb2; have r4 := own_rd ho2; refine (CC.out _ _ _ (heldB (by assumption)) (row8_fourG X [s.wide] WV NV _ r1 r2 r3 r4 _ (by first | rfl | simp))).mono ?_; rintro _ w3 ⟨A3, d3, rfl, ho3, hb3⟩) | (go_at_call 42; (with_reducible have r2 := (rd_one (enc := Value.int .u8) (one_cell w1 (.int .u8 s.wide) 5).1).on hb2); have e1 := (growd w1 (.cells #[.int .u8 s.wide] 5)).trans (hb2.mono (growd w1 (.cells #[.int .u8 s.wide] 5)).size); have r1 := own_rd (own_on ho1 e1); have r3 := (HRW.out.on hb1).on e1; have r4 := own_rd ho2; refine (CC.out _ _ _ (heldB (by assumption)) (row8_fourG X [s.wide] WV NV _ r1 r2 r3 r4 _ (by first | rfl | simp))).mono ?_; rintro _ w3 ⟨A3, d3, rfl, ho3, hb3⟩) | (go_at_call 42; have r2 := (rd_one (enc := Value.int .u8) (one_cell w2 (.int .u8 s.wide) 5).1); have e1 := growd w2 (.cells #[.int .u8 s.wide] 5); have r1 := own_rd (own_on (own_on ho1 hb2) e1); have r3 := ((HRW.out.on hb1).on hb2).on e1; have r4 := own_rd (own_on ho2 e1); refine (CC.out _ _ _ (heldB (by assumption)) (row8_fourG X [s.wide] WV NV _ r1 r2 r3 r4 _ (by first | rfl | simp))).mono ?_; rintro _ w3 ⟨A3, d3, rfl, ho3, hb3⟩) | fail)
  all_goals
    have HO := hid ho3
    clear r1 r2 r3 r4 ho1 ho2 ho3
    go_wp2_with fail
    go_ret
    exact ⟨A3, d3, rfl, HO.out, heldB (by assumption)⟩
end Go.Proofs.YtjkhdfncahhnoaaGreat
/- Whether a frame may be, and is the same; an acknowledgement: by the document. -/
namespace Go.Proofs.YtjkhdfncahhnoaaGreat
open Go.RowKit
set_option maxHeartbeats 400000
set_option maxRecDepth 100000
set_option linter.unusedVariables false
abbrev encF (f : FrameV) (p : SentP) : Value := .agg #[.int .i64 f.knd, .int .i64 f.frm, .int .i64 f.stp, .int .i64 f.S.sch, .int .i64 f.S.dim, .slice p.AL f.S.L.length p.cL, .slice p.AV f.S.V.length p.cV, .int .i64 f.S.scale, .int .i64 f.S.wide, .slice p.AE f.S.lev.length p.cE, .slice p.AN f.S.neg.length p.cN]
end Go.Proofs.YtjkhdfncahhnoaaGreat
/- A vector's body, by the document. -/
namespace Go.Proofs.YtjkhdfncahhnoaaGreat
open Go.RowKit
set_option maxHeartbeats 400000
set_option maxRecDepth 100000
set_option linter.unusedVariables false
/-- A vector in a box of its own. -/
def BoxS (w : World) (b : Nat) (s : SentV) (p : SentP) : Prop :=
  w.cell? ⟨b, 0, none⟩ = some (.int .i64 s.sch) ∧ w.cell? ⟨b, 1, none⟩ = some (.int .i64 s.dim) ∧ w.cell? ⟨b, 2, none⟩ = some (.slice p.AL s.L.length p.cL) ∧ w.cell? ⟨b, 3, none⟩ = some (.slice p.AV s.V.length p.cV) ∧
  w.cell? ⟨b, 4, none⟩ = some (.int .i64 s.scale) ∧ w.cell? ⟨b, 5, none⟩ = some (.int .i64 s.wide) ∧ w.cell? ⟨b, 6, none⟩ = some (.slice p.AE s.lev.length p.cE) ∧ w.cell? ⟨b, 7, none⟩ = some (.slice p.AN s.neg.length p.cN)
theorem BoxS.below {w w' : World} {b B : Nat} {s : SentV} {p : SentP} (h : BoxS w b s p) (hb : Below B w w') (hB : b < B) : BoxS w' b s p := by
  obtain ⟨h0, h1, h2, h3, h4, h5, h6, h7⟩ := h
  exact ⟨(hb.cell (p := ⟨b, 0, none⟩) hB).trans h0, (hb.cell (p := ⟨b, 1, none⟩) hB).trans h1, (hb.cell (p := ⟨b, 2, none⟩) hB).trans h2, (hb.cell (p := ⟨b, 3, none⟩) hB).trans h3,
    (hb.cell (p := ⟨b, 4, none⟩) hB).trans h4, (hb.cell (p := ⟨b, 5, none⟩) hB).trans h5, (hb.cell (p := ⟨b, 6, none⟩) hB).trans h6, (hb.cell (p := ⟨b, 7, none⟩) hB).trans h7⟩
theorem boxS_new (w : World) (s : SentV) (p : SentP) (t : TypeId) : BoxS (w.alloc (.cells #[.int .i64 s.sch, .int .i64 s.dim, .slice p.AL s.L.length p.cL, .slice p.AV s.V.length p.cV, .int .i64 s.scale, .int .i64 s.wide, .slice p.AE s.lev.length p.cE, .slice p.AN s.neg.length p.cN] t)) w.heap.size s p :=
  ⟨by simp [go_sem], by simp [go_sem], by simp [go_sem], by simp [go_sem], by simp [go_sem], by simp [go_sem], by simp [go_sem], by simp [go_sem]⟩
end Go.Proofs.YtjkhdfncahhnoaaGreat
/- A vector's body, by the program: its scheme's method out of a map. -/
namespace Go.Proofs.YtjkhdfncahhnoaaGreat
open Go.RowKit
set_option maxHeartbeats 2000000
set_option maxRecDepth 100000
set_option linter.unusedVariables false
theorem held12 {P : Program} {t : TypeId} {key F : Value} {w W W5 w1 : World} {g : Nat} {a b c d e f i j : Value} (HL : ∀ W : World, W.heap[g + 1]? = W5.heap[g + 1]? → (Instr.lookup t (.map (some (g + 1))) key false).run P W = .ok F W)
    (h : W.cell? ⟨g, 0, none⟩ = some a ∧ W.cell? ⟨g, 1, none⟩ = some b ∧ W.cell? ⟨g, 2, none⟩ = some c ∧ W.cell? ⟨g, 3, none⟩ = some d ∧ W.cell? ⟨g, 4, none⟩ = some e ∧ W.cell? ⟨g, 5, none⟩ = some f ∧ W.cell? ⟨g, 6, none⟩ = some i ∧ W.cell? ⟨g, 7, none⟩ = some j ∧ (Instr.lookup t (.map (some (g + 1))) key false).run P W = .ok F W ∧ W.heap[g + 1]? = W5.heap[g + 1]? ∧ g + 2 ≤ W.heap.size ∧ Below g w W) (hb : Below (g + 2) W w1) : w1.cell? ⟨g, 0, none⟩ = some a ∧ w1.cell? ⟨g, 1, none⟩ = some b ∧ w1.cell? ⟨g, 2, none⟩ = some c ∧ w1.cell? ⟨g, 3, none⟩ = some d ∧ w1.cell? ⟨g, 4, none⟩ = some e ∧ w1.cell? ⟨g, 5, none⟩ = some f ∧ w1.cell? ⟨g, 6, none⟩ = some i ∧ w1.cell? ⟨g, 7, none⟩ = some j ∧ (Instr.lookup t (.map (some (g + 1))) key false).run P w1 = .ok F w1 ∧ w1.heap[g + 1]? = W5.heap[g + 1]? ∧ g + 2 ≤ w1.heap.size ∧ Below g w w1 := by
  obtain ⟨h0, h1, h2, h3, h4, h5, h6, h7, hl, hm, hz, hB⟩ := h
  have hm1 := (hb.block (g + 1) (by omega)).trans hm
  exact ⟨(hb.cell (p := ⟨g, 0, none⟩) (by simp)).trans h0, (hb.cell (p := ⟨g, 1, none⟩) (by simp)).trans h1, (hb.cell (p := ⟨g, 2, none⟩) (by simp)).trans h2, (hb.cell (p := ⟨g, 3, none⟩) (by simp)).trans h3, (hb.cell (p := ⟨g, 4, none⟩) (by simp)).trans h4, (hb.cell (p := ⟨g, 5, none⟩) (by simp)).trans h5, (hb.cell (p := ⟨g, 6, none⟩) (by simp)).trans h6, (hb.cell (p := ⟨g, 7, none⟩) (by simp)).trans h7, HL _ hm1, hm1, Nat.le_trans hz hb.size, hB.trans (hb.mono (by omega))⟩
theorem held12B {P : Program} {t : TypeId} {key F : Value} {w W W5 : World} {g : Nat} {a b c d e f i j : Value} (h : W.cell? ⟨g, 0, none⟩ = some a ∧ W.cell? ⟨g, 1, none⟩ = some b ∧ W.cell? ⟨g, 2, none⟩ = some c ∧ W.cell? ⟨g, 3, none⟩ = some d ∧ W.cell? ⟨g, 4, none⟩ = some e ∧ W.cell? ⟨g, 5, none⟩ = some f ∧ W.cell? ⟨g, 6, none⟩ = some i ∧ W.cell? ⟨g, 7, none⟩ = some j ∧ (Instr.lookup t (.map (some (g + 1))) key false).run P W = .ok F W ∧ W.heap[g + 1]? = W5.heap[g + 1]? ∧ g + 2 ≤ W.heap.size ∧ Below g w W) : Below g w W := h.2.2.2.2.2.2.2.2.2.2.2
theorem held12Z {P : Program} {t : TypeId} {key F : Value} {w W W5 : World} {g : Nat} {a b c d e f i j : Value} (h : W.cell? ⟨g, 0, none⟩ = some a ∧ W.cell? ⟨g, 1, none⟩ = some b ∧ W.cell? ⟨g, 2, none⟩ = some c ∧ W.cell? ⟨g, 3, none⟩ = some d ∧ W.cell? ⟨g, 4, none⟩ = some e ∧ W.cell? ⟨g, 5, none⟩ = some f ∧ W.cell? ⟨g, 6, none⟩ = some i ∧ W.cell? ⟨g, 7, none⟩ = some j ∧ (Instr.lookup t (.map (some (g + 1))) key false).run P W = .ok F W ∧ W.heap[g + 1]? = W5.heap[g + 1]? ∧ g + 2 ≤ W.heap.size ∧ Below g w W) : g + 2 ≤ W.heap.size := h.2.2.2.2.2.2.2.2.2.2.1
theorem head_len {s : SentV} (hd1 : 1 ≤ s.dim) (hd4 : s.dim ≤ 4096) : ([s.sch] ++ encs [s.dim]).length ≤ 11 := by
  have h := lebI_ten (n := s.dim) (by unfold U64; omega)
  rw [encs_one, List.length_append, List.length_singleton]
  omega
end Go.Proofs.YtjkhdfncahhnoaaGreat
/- Whether a frame may be, and is the same; an acknowledgement: by the program. -/
namespace Go.Proofs.YtjkhdfncahhnoaaGreat
open Go.RowKit
set_option maxHeartbeats 400000
set_option maxRecDepth 100000
set_option linter.unusedVariables false
def carP (f : FrameV) : Prop := (f.knd = 1 ∧ mayB f.S = true) ∨ (f.knd = 2 ∧ empB f.S = true)
instance (f : FrameV) : Decidable (carP f) := by unfold carP; infer_instance
def carB (f : FrameV) : Bool := decide (carP f)
theorem carB_iff {f : FrameV} : carB f = true ↔ carP f := by unfold carB; exact decide_eq_true_iff
theorem emp_zero {s : SentV} : empB s = true ↔ sameS s zeroS = true := by
  rw [empB_iff, sameS_iff]
  obtain ⟨a1, a2, a3, a4, a5, a6, a7, a8⟩ := s
  unfold zeroS
  simp
  intros
  constructor
  · rintro ⟨h3, h4, h5, h6, h7, h8⟩; exact ⟨h5, h6, h3, h4, h7, h8⟩
  · rintro ⟨h5, h6, h3, h4, h7, h8⟩; exact ⟨h3, h4, h5, h6, h7, h8⟩
theorem fs_carries (f : FrameV) (p : SentP) (hn : lnS 100000 f.S) (hw : wfF f) (w : World) (ra : RdS w w.heap.size f.S p) :
    Calls Tryz.prog 34 #[encF f p] w fun e w' => e = .returned (.bool (carB f)) ∧ Below w.heap.size w w' := by
  by_cases h1 : f.knd = 1
  · have C := hid (fun W (h : Below w.heap.size w W) => fs_May f.S p hn hw.2.2.2 W ((ra.below h).more h.size))
    have HR : carB f = mayB f.S := by
      have h : carB f = true ↔ mayB f.S = true := by rw [carB_iff]; unfold carP; simp [h1]
      cases hx : mayB f.S <;> simp_all
    rw [HR]
    have g0 : (f.knd == 1) = true := by rw [h1]; rfl
    clear h1 HR ra hn hw
    go_enter Tryz.func34, Tryz.ntmps34
    go_wp2_with fail
    refine (C.out _ (by go_grown)).mono ?_
    rintro _ w1 ⟨rfl, hb1⟩
    go_wp2_with fail
    go_ret
    exact ⟨rfl, Below.trans (by go_grown) (hb1.mono (by simp))⟩
  · by_cases h2 : f.knd = 2
    · have C := hid (fun W => fs_empty f.S p W)
      have HR : carB f = empB f.S := by
        have h : carB f = true ↔ empB f.S = true := by rw [carB_iff]; unfold carP; simp [h2]
        cases hx : empB f.S <;> simp_all
      rw [HR]
      have g0 : (f.knd == 1) = false := by rw [h2]; rfl
      have g1 : (f.knd == 2) = true := by rw [h2]; rfl
      clear h1 h2 HR ra hn hw
      go_enter Tryz.func34, Tryz.ntmps34
      go_wp2_with fail
      refine (C.out _).mono ?_
      rintro _ w1 ⟨rfl, hb1⟩
      go_wp2_with fail
      go_ret
      exact ⟨rfl, Below.trans (by go_grown) (hb1.mono (by simp))⟩
    · have HR : carB f = false := decide_eq_false (by unfold carP; simp [h1, h2])
      rw [HR]
      clear HR ra hn hw
      go_enter Tryz.func34, Tryz.ntmps34
      go_wp2_with fail
      go_ret
      exact ⟨rfl, by go_grown⟩
theorem fs_Check (f : FrameV) (p : SentP) (hn : lnS 100000 f.S) (hw : wfF f) (w : World) (ra : RdS w w.heap.size f.S p) :
    Calls Tryz.prog 15 #[encF f p] w fun e w' => e = .returned (.int .i64 (chkF f)) ∧ Below w.heap.size w w' := by
  have C := hid (fun W (h : Below w.heap.size w W) => fs_carries f p hn hw W ((ra.below h).more h.size))
  have HR : chkF f = 0 ↔ (0 ≤ f.frm ∧ f.frm < 64 ∧ 0 ≤ f.stp ∧ f.stp ≤ 1073741824 ∧ carB f = true) := by
    rw [chkF_ok, carB_iff]; unfold frmP carP; rw [emp_zero]
  have HE : chkF f = 0 ∨ chkF f = 1 := by unfold chkF; split <;> simp
  obtain ⟨R, hR⟩ : ∃ R, chkF f = R := ⟨_, rfl⟩
  obtain ⟨v, hv⟩ : ∃ R, carB f = R := ⟨_, rfl⟩
  rw [hR] at HR HE ⊢
  rw [hv] at HR C
  have HR2 := hid HR
  have HE2 := hid HE
  clear hR hv HR HE ra hn hw
  by_cases ok : 0 ≤ f.frm ∧ f.frm < 64 ∧ 0 ≤ f.stp ∧ f.stp ≤ 1073741824
  · obtain ⟨o1, o2, o3, o4⟩ := ok
    cases v with
    | true =>
      obtain rfl : R = 0 := HR2.out.2 ⟨o1, o2, o3, o4, rfl⟩
      clear HR2 HE2
      go_enter Tryz.func15, Tryz.ntmps15
      go_wp2_with fail
      refine (C.out _ (by go_grown)).mono ?_
      rintro _ w1 ⟨rfl, hb1⟩
      go_wp2_with fail
      go_ret
      exact ⟨rfl, Below.trans (by go_grown) (hb1.mono (by simp))⟩
    | false =>
      obtain rfl : R = 1 := by rcases HE2.out with h | h; have := (HR2.out.1 h).2.2.2.2; simp at this; exact h
      clear HR2 HE2
      go_enter Tryz.func15, Tryz.ntmps15
      go_wp2_with fail
      refine (C.out _ (by go_grown)).mono ?_
      rintro _ w1 ⟨rfl, hb1⟩
      go_wp2_with fail
      go_ret
      exact ⟨rfl, Below.trans (by go_grown) (hb1.mono (by simp))⟩
  · obtain rfl : R = 1 := by
      rcases HE2.out with h | h
      · have h5 := HR2.out.1 h; exact absurd ⟨h5.1, h5.2.1, h5.2.2.1, h5.2.2.2.1⟩ ok
      · exact h
    clear HR2 HE2 C
    by_cases o1 : 0 ≤ f.frm
    · by_cases o2 : f.frm < 64
      · by_cases o3 : 0 ≤ f.stp
        · have o4 : ¬ f.stp ≤ 1073741824 := fun h => ok ⟨o1, o2, o3, h⟩
          clear ok
          go_enter Tryz.func15, Tryz.ntmps15
          go_wp2_with fail
          all_goals (go_ret; exact ⟨rfl, by go_grown⟩)
        · clear ok
          go_enter Tryz.func15, Tryz.ntmps15
          go_wp2_with fail
          all_goals (go_ret; exact ⟨rfl, by go_grown⟩)
      · clear ok
        go_enter Tryz.func15, Tryz.ntmps15
        go_wp2_with fail
        all_goals (go_ret; exact ⟨rfl, by go_grown⟩)
    · clear ok
      go_enter Tryz.func15, Tryz.ntmps15
      go_wp2_with fail
      all_goals (go_ret; exact ⟨rfl, by go_grown⟩)
end Go.Proofs.YtjkhdfncahhnoaaGreat
/- A frame's text, and how many bytes it has, by the document. -/
namespace Go.Proofs.YtjkhdfncahhnoaaGreat
open Go.RowKit
set_option maxHeartbeats 400000
set_option maxRecDepth 100000
set_option linter.unusedVariables false
/-- A frame in a box of its own. -/
def BoxF (w : World) (b : Nat) (f : FrameV) (p : SentP) : Prop :=
  w.cell? ⟨b, 0, none⟩ = some (.int .i64 f.knd) ∧ w.cell? ⟨b, 1, none⟩ = some (.int .i64 f.frm) ∧ w.cell? ⟨b, 2, none⟩ = some (.int .i64 f.stp) ∧
  w.cell? ⟨b, 3, none⟩ = some (.int .i64 f.S.sch) ∧ w.cell? ⟨b, 4, none⟩ = some (.int .i64 f.S.dim) ∧ w.cell? ⟨b, 5, none⟩ = some (.slice p.AL f.S.L.length p.cL) ∧ w.cell? ⟨b, 6, none⟩ = some (.slice p.AV f.S.V.length p.cV) ∧
  w.cell? ⟨b, 7, none⟩ = some (.int .i64 f.S.scale) ∧ w.cell? ⟨b, 8, none⟩ = some (.int .i64 f.S.wide) ∧ w.cell? ⟨b, 9, none⟩ = some (.slice p.AE f.S.lev.length p.cE) ∧ w.cell? ⟨b, 10, none⟩ = some (.slice p.AN f.S.neg.length p.cN)
theorem BoxF.below {w w' : World} {b B : Nat} {f : FrameV} {p : SentP} (h : BoxF w b f p) (hb : Below B w w') (hB : b < B) : BoxF w' b f p := by
  obtain ⟨h0, h1, h2, h3, h4, h5, h6, h7, h8, h9, h10⟩ := h
  exact ⟨(hb.cell (p := ⟨b, 0, none⟩) hB).trans h0, (hb.cell (p := ⟨b, 1, none⟩) hB).trans h1, (hb.cell (p := ⟨b, 2, none⟩) hB).trans h2, (hb.cell (p := ⟨b, 3, none⟩) hB).trans h3,
    (hb.cell (p := ⟨b, 4, none⟩) hB).trans h4, (hb.cell (p := ⟨b, 5, none⟩) hB).trans h5, (hb.cell (p := ⟨b, 6, none⟩) hB).trans h6, (hb.cell (p := ⟨b, 7, none⟩) hB).trans h7, (hb.cell (p := ⟨b, 8, none⟩) hB).trans h8, (hb.cell (p := ⟨b, 9, none⟩) hB).trans h9, (hb.cell (p := ⟨b, 10, none⟩) hB).trans h10⟩
theorem boxF_new (w : World) (f : FrameV) (p : SentP) (t : TypeId) : BoxF (w.alloc (.cells #[.int .i64 f.knd, .int .i64 f.frm, .int .i64 f.stp, .int .i64 f.S.sch, .int .i64 f.S.dim, .slice p.AL f.S.L.length p.cL, .slice p.AV f.S.V.length p.cV, .int .i64 f.S.scale, .int .i64 f.S.wide, .slice p.AE f.S.lev.length p.cE, .slice p.AN f.S.neg.length p.cN] t)) w.heap.size f p :=
  ⟨by simp [go_sem], by simp [go_sem], by simp [go_sem], by simp [go_sem], by simp [go_sem], by simp [go_sem], by simp [go_sem], by simp [go_sem], by simp [go_sem], by simp [go_sem], by simp [go_sem]⟩
theorem two_rd (w : World) (k k' : IntKind) (a b c d : Int) (t t' : TypeId) :
    Rd (Value.int k) ((w.alloc (.cells #[.int k a, .int k b] t)).alloc (.cells #[.int k' c, .int k' d] t')) ((w.alloc (.cells #[.int k a, .int k b] t)).alloc (.cells #[.int k' c, .int k' d] t')).heap.size (some ⟨w.heap.size, 0, none⟩) [a, b] ∧
    Rd (Value.int k') ((w.alloc (.cells #[.int k a, .int k b] t)).alloc (.cells #[.int k' c, .int k' d] t')) ((w.alloc (.cells #[.int k a, .int k b] t)).alloc (.cells #[.int k' c, .int k' d] t')).heap.size (some ⟨w.heap.size + 1, 0, none⟩) [c, d] ∧
    Below w.heap.size w ((w.alloc (.cells #[.int k a, .int k b] t)).alloc (.cells #[.int k' c, .int k' d] t')) := by
  refine ⟨?_, ?_, by go_grown⟩
  · have h := rd_new (enc := Value.int k) w t [a, b]
    exact h.on (grow (w.alloc (.cells #[.int k a, .int k b] t)) _)
  · have h := rd_new (enc := Value.int k') (w.alloc (.cells #[.int k a, .int k b] t)) t' [c, d]
    have e : (w.alloc (.cells #[.int k a, .int k b] t)).heap.size = w.heap.size + 1 := World.size_alloc _ _
    have h2 := h
    rw [show (some (⟨(w.alloc (.cells #[.int k a, .int k b] t)).heap.size, 0, none⟩ : Addr)) = some ⟨w.heap.size + 1, 0, none⟩ by rw [e]] at h2
    exact h2
theorem wrtV_len (f : FrameV) (hw : wfF f) (h : f.S.V.length ≤ 1000) : (wrtV f).length ≤ 65536 := by
  unfold wrtV
  split
  · rename_i hc
    have := text_len hc hw h
    unfold sealV
    split
    · simp
    · rw [List.length_append, le4_len]; omega
  · simp
end Go.Proofs.YtjkhdfncahhnoaaGreat
/- The program's reader: on, or none; the next bytes; the next byte; the next number. -/
namespace Go.Proofs.YtjkhdfncahhnoaaGreat
open Go.RowKit
set_option maxHeartbeats 1000000
set_option maxRecDepth 100000
set_option linter.unusedVariables false
/-- All but two blocks are as they were. -/
structure Off (g h : Nat) (w w' : World) : Prop where
  os : w'.os = w.os
  tape : w'.tape = w.tape
  output : w'.output = w.output
  size : w.heap.size ≤ w'.heap.size
  block : ∀ k, k < w.heap.size → k ≠ g → k ≠ h → w'.heap[k]? = w.heap[k]?
section
variable {g h B : Nat} {w w' w'' : World}
theorem Off.refl (g h : Nat) (w : World) : Off g h w w := ⟨rfl, rfl, rfl, Nat.le_refl _, fun _ _ _ _ => rfl⟩
theorem Off.trans (a : Off g h w w') (b : Off g h w' w'') : Off g h w w'' := ⟨b.os.trans a.os, b.tape.trans a.tape, b.output.trans a.output, Nat.le_trans a.size b.size, fun k hk h1 h2 => (b.block k (Nat.lt_of_lt_of_le hk a.size) h1 h2).trans (a.block k hk h1 h2)⟩
theorem Off.of (a : Below w.heap.size w w') : Off g h w w' := ⟨a.os, a.tape, a.output, a.size, fun k hk _ _ => a.block k hk⟩
theorem Off.left (a : Off g g w w') : Off g h w w' := ⟨a.os, a.tape, a.output, a.size, fun k hk h1 _ => a.block k hk h1 h1⟩
theorem Off.set (k : Nat) (u : Value) : Off g g w (w.setCell ⟨g, k, none⟩ u) := ⟨rfl, rfl, rfl, by simp [World.setCell], fun i _ h1 _ => Below.heap_setCell _ _ _ _ h1⟩
theorem Off.setR (k : Nat) (u : Value) : Off g h w (w.setCell ⟨h, k, none⟩ u) := ⟨rfl, rfl, rfl, by simp [World.setCell], fun i _ _ h2 => Below.heap_setCell _ _ _ _ h2⟩
theorem Off.below (a : Off g h w w') (hg : B ≤ g) (hh : B ≤ h) (hB : B ≤ w.heap.size) : Below B w w' := ⟨a.os, a.tape, a.output, a.size, fun k hk => a.block k (by omega) (by omega) (by omega)⟩
theorem Off.drop (a : Off g h w w') (hh : w.heap.size ≤ h) : Off g g w w' := ⟨a.os, a.tape, a.output, a.size, fun k hk h1 _ => a.block k hk h1 (by omega)⟩
theorem Off.drop2 (a : Off g h w w') (hg : w.heap.size ≤ g) (hh : w.heap.size ≤ h) : Below w.heap.size w w' := ⟨a.os, a.tape, a.output, a.size, fun k hk => a.block k hk (by omega) (by omega)⟩
theorem Off.box {b : Nat} {vs : List Value} (a : Off g h w w') (hb : BoxL w b vs) (h0 : 0 < vs.length) (h1 : b ≠ g) (h2 : b ≠ h) : BoxL w' b vs := fun k v hv =>
  have e := a.block b (hb.lt h0) h1 h2
  ⟨(World.cell?_of_block (w := w) (a := ⟨b, k, none⟩) e).trans (hb k v hv).1, (World.frozen?_of_block (w := w) (a := ⟨b, k, none⟩) e).trans (hb k v hv).2⟩
theorem Off.own {base n : Nat} {e : TypeId} {v : Value} {vs : List Value} (a : Off g h w w') (ho : w.ownsRow base e 1 v n vs) (hg : g < base) (hh : h < base) : w'.ownsRow base e 1 v n vs := by
  refine ⟨ho.1, ?_⟩
  rcases ho.2 with hn | ⟨k, cap, cur, hv, hg2, hh2, r⟩
  · exact .inl hn
  · exact .inr ⟨k, cap, cur, hv, hg2, (a.block k (Array.getElem?_eq_some_iff.1 hh2).1 (by omega) (by omega)).trans hh2, r⟩
end
/-- A reader in its box. -/
def RdB (w : World) (g : Nat) (A : Option Addr) (n c : Nat) (σ : Rs) : Prop := BoxL w g [.slice A n c, .int .i64 (σ.1 : Int), .bool σ.2]
theorem RdB.three {w : World} {g n c : Nat} {A : Option Addr} {σ : Rs} (h : RdB w g A n c σ) : w.cell? ⟨g, 0, none⟩ = some (.slice A n c) ∧ w.cell? ⟨g, 1, none⟩ = some (.int .i64 (σ.1 : Int)) ∧ w.cell? ⟨g, 2, none⟩ = some (.bool σ.2) ∧ w.frozen? ⟨g, 0, none⟩ = false ∧ w.frozen? ⟨g, 1, none⟩ = false ∧ w.frozen? ⟨g, 2, none⟩ = false :=
  ⟨(h 0 _ rfl).1, (h 1 _ rfl).1, (h 2 _ rfl).1, (h 0 _ rfl).2, (h 1 _ rfl).2, (h 2 _ rfl).2⟩
theorem fr_pass {g n c : Nat} {A : Option Addr} (σ : Rs) (a e : Int) (ha : e = 0 → 0 ≤ a) (w : World) (hb : RdB w g A n c σ) :
    Calls Tryz.prog 68 #[.pointer (some ⟨g, 0, none⟩), .int .i64 a, .int .i64 e] w fun r w' => r = .returned (.tuple #[]) ∧ RdB w' g A n c (pas σ a e) ∧ Off g g w w' := by
  obtain ⟨c0, c1, c2, f0, f1, f2⟩ := hb.three
  unfold pas
  by_cases he : e = 0
  · have ha0 := ha he
    rw [if_pos he]
    obtain ⟨k, rfl⟩ := Int.eq_ofNat_of_zero_le ha0
    have hbn : RdB (w.setCell ⟨g, 1, none⟩ (.int .i64 (k : Int))) g A n c (k, σ.2) := BoxL.one hb (k := 1) rfl (.int .i64 (k : Int))
    rw [Int.toNat_natCast]
    have HB := hid hbn
    have g0 : (e != 0) = false := by simp [he]
    clear hb ha he ha0 hbn
    go_enter Tryz.func68, Tryz.ntmps68
    go_wp2_with fail
    first | go_end0 | (refine bodyPost_ret (results_none rfl _ _ _) rfl ?_)
    exact ⟨rfl, HB.out, Off.set _ _⟩
  · rw [if_neg he]
    have hbn : RdB (w.setCell ⟨g, 2, none⟩ (.bool true)) g A n c (σ.1, true) := BoxL.one hb (k := 2) rfl (.bool true)
    have HB := hid hbn
    have g0 : (e != 0) = true := by simp [he]
    clear hb ha he hbn
    go_enter Tryz.func68, Tryz.ntmps68
    go_wp2_with fail
    first | go_end0 | (refine bodyPost_ret (results_none rfl _ _ _) rfl ?_)
    exact ⟨rfl, HB.out, Off.set _ _⟩
theorem fr_take {g c : Nat} {A : Option Addr} (o : List Int) (ho : o.length ≤ c) (hc : c ≤ 9223372036854775807) (hol : o.length ≤ 70000) (σ : Rs) (ha : σ.1 ≤ o.length) (m : Int) (hm0 : 0 ≤ m) (hm1 : m ≤ 1000000) (w : World) (hb : RdB w g A o.length c σ) (ra : Rd (Value.int .u8) w g A o) :
    Calls Tryz.prog 66 #[.pointer (some ⟨g, 0, none⟩), .int .i64 m] w fun r w' => ∃ A2 c2, r = .returned (.slice A2 (tak o σ m).1.length c2) ∧ Rd (Value.int .u8) w' g A2 (tak o σ m).1 ∧ RdB w' g A o.length c (tak o σ m).2 ∧ Off g g w w' := by
  obtain ⟨c0, c1, c2, f0, f1, f2⟩ := hb.three
  obtain ⟨a, z⟩ := σ
  simp only at ha c1 c2
  unfold tak
  simp only
  have e1 : IntKind.i64.wrap ((o.length : Int) - (a : Int)) = (o.length : Int) - (a : Int) := Go.IntWalk.i64_in _ (by omega)
  by_cases hf : (o.length : Int) - (a : Int) < m
  · rw [if_pos hf]
    have hbn : RdB (w.setCell ⟨g, 2, none⟩ (.bool true)) g A o.length c (a, true) := BoxL.one hb (k := 2) rfl (.bool true)
    have HB := hid hbn
    have HRn : Hid (Rd (Value.int .u8) (w.setCell ⟨g, 2, none⟩ (.bool true)) g none []) := hid Rd.none_
    clear hb hbn ra
    go_enter Tryz.func66, Tryz.ntmps66
    go_wp2_with fail
    go_quiet (fail)
    go_wp2_with fail
    go_ret
    exact ⟨none, 0, rfl, HRn.out, HB.out, (Off.of (belowN _ w _)).trans (Off.set _ _)⟩
  · rw [if_neg hf]
    obtain ⟨k, rfl⟩ := Int.eq_ofNat_of_zero_le hm0
    rw [Int.toNat_natCast]
    have hk : a + k ≤ o.length := by omega
    have e2 : IntKind.i64.wrap ((a : Int) + (k : Int)) = (a : Int) + (k : Int) := Go.IntWalk.i64_in _ (by omega)
    have hbn : RdB (w.setCell ⟨g, 1, none⟩ (.int .i64 ((a : Int) + (k : Int)))) g A o.length c (a + k, z) := BoxL.one hb (k := 1) rfl (.int .i64 ((a : Int) + (k : Int)))
    have HB := hid hbn
    obtain ⟨c0', c1', c2', f0', f1', f2'⟩ := hbn.three
    have hcast : ((a + k : Nat) : Int) = (a : Int) + (k : Int) := by omega
    simp only [hcast] at c1'
    have hsl := fun W => run_part (P := Tryz.prog) 33 Tryz.underlying33 Tryz.sizeOf5 A o.length c a (a + k) (by omega) (by omega) W
    rw [hcast, show a + k - a = k by omega] at hsl
    have hrd : Rd (Value.int .u8) (w.setCell ⟨g, 1, none⟩ (.int .i64 ((a : Int) + (k : Int)))) g (cutA A a c) ((o.drop a).take k) := (((ra.below ((Below.refl g w).setCell (p := ⟨g, 1, none⟩) (Nat.le_refl _) _)).cut a ho).some_cut k)
    have hlen : ((o.drop a).take k).length = k := by rw [List.length_take, List.length_drop]; omega
    obtain ⟨A2, hA2⟩ : ∃ A2, cutA A a c = A2 := ⟨_, rfl⟩
    rw [hA2] at hsl hrd
    have HRD := hid hrd
    have HLN := hid hlen
    clear hb hbn ra hrd hA2 hcast hlen
    go_enter Tryz.func66, Tryz.ntmps66
    go_wp2_with fail
    go_quiet (fail)
    go_wp2_with fail
    go_quiet (fail)
    go_wp2_with fail
    go_ret
    rw [HLN.out]
    exact ⟨A2, _, rfl, HRD.out, HB.out, ((Off.of (belowN _ w _)).trans (Off.set _ _)).trans (Off.of (belowN _ _ _))⟩
end Go.Proofs.YtjkhdfncahhnoaaGreat
/- The program's reader: the next byte, the next number, the next numbers, signs, planes. -/
namespace Go.Proofs.YtjkhdfncahhnoaaGreat
open Go.RowKit
set_option maxHeartbeats 1000000
set_option maxRecDepth 100000
set_option linter.unusedVariables false
theorem get_fwd {b : List Int} {a : Int} (ub : U8s b) (h : getE b a = 0) : a + 1 ≤ getA b a ∧ getA b a ≤ b.length := by
  obtain ⟨h0, hu, j, hj, hA, ht⟩ := get_ok ub h
  have hp := lebI_pos (getN b a) hu.1
  have hl := congrArg List.length ht
  rw [List.length_take, List.length_drop] at hl
  rw [hA]
  omega
theorem wrap_w64 {n : Int} (h : U64 n) : RowKit.wrap64 n = w64 n := by
  unfold U64 at h
  unfold RowKit.wrap64 w64
  split <;> omega
theorem leb_ManyX {A : Option Addr} {c : Nat} (b : List Int) (hb : b.length ≤ c) (hc : c ≤ 9223372036854775807) (ub : U8s b) (hbl : b.length ≤ 1000000) (a many : Int) (ha : 0 ≤ a) (hal : a ≤ b.length) (hm0 : -9223372036854775808 ≤ many) (hm : many ≤ 9223372036854775807) (w : World) (ra : Rd (Value.int .u8) w w.heap.size A b) :
    Calls Tryz.prog 112 #[.slice A b.length c, .int .i64 a, .int .i64 many] w (OwnNums (mnyV b many a) w) := by
  by_cases h1 : many < 0
  · have e : mnyV b many a = ([], 0, 1) := if_pos h1
    rw [e]
    clear e ra ub
    go_enter Tryz.func112, Tryz.ntmps112
    go_wp2_with fail
    go_ret3
    exact ⟨none, 0, rfl, own_nil _ _ _, Below.refl _ _⟩
  obtain ⟨r, hr⟩ : ∃ r, mnyV b many a = r := ⟨_, rfl⟩
  rw [hr]
  unfold mnyV at hr
  rw [if_neg h1] at hr
  obtain ⟨M, hM⟩ : ∃ M : Nat, many.toNat = M := ⟨_, rfl⟩
  have hMm : many = (M : Int) := by omega
  rw [hM] at hr
  subst hMm
  have HRR := hid hr
  have HA := hid ra
  have HU := hid ub
  clear hr ra ub hM h1
  go_enter Tryz.func112, Tryz.ntmps112
  go_wp2_with fail
  go_loopw [1, 9, 16] (fun p t i wr => ∃ (k : Nat) (x : Int) (S : List Int) (A2 : Option Addr) (c2 : Nat), k ≤ M ∧ i = .int .i64 k ∧ p = .int .i64 x ∧ (k : Int) ≤ x ∧ x ≤ b.length ∧ t = .slice A2 S.length c2 ∧ S.length = k ∧ mny b (M - k) x S = r ∧ wr.ownsRow w.heap.size 47 1 (.slice A2 S.length c2) S.length (S.map (Value.int .u64)) ∧ Below w.heap.size w wr) (fun _ _ i _ => M - (intOf i).toNat)
  case atStart => exact ⟨0, a, [], none, 0, by omega, rfl, rfl, ha, hal, rfl, rfl, HRR.out, own_nil _ _ _, Below.refl _ _⟩
  case round =>
    obtain ⟨k, x, S, A2, c2, hk, rfl, rfl, hx, hxl, rfl, hSk, hs, ho, hbel⟩ := hrel
    have hSl : S.length ≤ 1000000 := by omega
    have hx64 : I64 x := by unfold I64; omega
    have HS := hid hs
    have HO := hid ho
    have HK := hid hSk
    clear hs ho hSk
    by_cases hlt : k < M
    · have CG := hid (leb_Get (A := A) (c := c) b hb hc HU.out x hx64)
      have HX := hid (fun h => get_fwd (b := b) (a := x) HU.out h)
      have HM : Hid ((getE b x = 0 → mny b (M - (k + 1)) (getA b x) (S ++ [getN b x]) = r) ∧ (getE b x ≠ 0 → r = ([], 0, getE b x))) := by
        have h := HS.out
        rw [show M - k = (M - (k + 1)) + 1 by omega, mny] at h
        exact ⟨fun e => by rw [if_pos e] at h; exact h, fun e => by rw [if_neg e] at h; exact h.symm⟩
      obtain ⟨N, hN⟩ : ∃ N, getN b x = N := ⟨_, rfl⟩
      obtain ⟨E, hE⟩ : ∃ N, getE b x = N := ⟨_, rfl⟩
      obtain ⟨X, hX⟩ : ∃ N, getA b x = N := ⟨_, rfl⟩
      rw [hN, hE, hX] at HM CG
      rw [hE, hX] at HX
      clear hN hE hX
      have hr2 := HA.out.below hbel
      go_wp2_with fail
      refine (CG.out _ hr2).mono ?_
      rintro _ _ ⟨rfl, rfl⟩
      clear hr2
      by_cases her : E = 0
      · have hX := HX.out her
        have h2 := HM.out.1 her
        have HM2 := hid h2
        clear h2
        subst her
        have h0 := own_on HO.out ((Below.refl wr.heap.size wr).alloc (Nat.le_refl _) (.cells #[.int .u64 N] 47))
        have hr0 : Rd (Value.int .u64) (wr.alloc (.cells #[.int .u64 N] 47)) _ (some ⟨wr.heap.size, 0, none⟩) [N] := rd_one (one_cell wr (.int .u64 N) 47).1
        go_wp2_with (at_builtin; refine wpList_app (Value.int .u64) (fun _ => rfl) _ rfl _ _ 26 rfl w.heap.size 47 (.int .u64 0) 8 Tryz.underlying26 info_u64 rfl S _ _ rfl h0 [N] _ 1 _ rfl hr0 (by simp [maxLen]; omega) (by simp; omega) (by have := hbel.size; simp; omega) ?_)
        rintro S' A' c' w1 hS' ho hb1 _
        have HS' := hid hS'
        have HO' := hid ho
        clear hS' ho h0 hr0
        go_wp2_with fail
        go_roundw
        case rel =>
          refine ⟨k + 1, X, S', A', c', by omega, by go_num, rfl, by omega, hX.2, rfl, ?_, ?_, HO'.out, (hbel.alloc hbel.size _).trans hb1⟩
          · rw [HS'.out, List.length_append, HK.out]; rfl
          · rw [HS'.out]; exact HM2.out
        case measure => simp [intOf]; omega
      · have hne : (E != 0) = true := by simpa using her
        have HR2 := hid (HM.out.2 her)
        go_wp2_with fail
        go_ret3
        rw [HR2.out]
        exact ⟨none, 0, rfl, own_nil _ _ _, hbel⟩
    · obtain rfl : k = M := by omega
      have HR2 : Hid (r = (S, x, 0)) := by
        have h := HS.out
        rw [Nat.sub_self, mny] at h
        exact h.symm
      go_wp2_with fail
      go_ret3
      rw [HR2.out]
      exact ⟨A2, c2, rfl, HO.out, hbel⟩
theorem pas_le {o : List Int} {σ : Rs} {a e : Int} (hs : σ.1 ≤ o.length) (h : e = 0 → a ≤ o.length) : (pas σ a e).1 ≤ o.length := by
  unfold pas
  split
  · rename_i he
    have := h he
    simp only
    omega
  · exact hs
theorem tak_le {o : List Int} {σ : Rs} {m : Int} (hs : σ.1 ≤ o.length) : (tak o σ m).2.1 ≤ o.length := by
  unfold tak
  split
  · exact hs
  · simp only; omega
theorem tak_len {o : List Int} {σ : Rs} {m : Int} : (tak o σ m).1.length ≤ o.length := by
  unfold tak
  split
  · simp
  · simp only [List.length_take, List.length_drop]; omega
theorem tak_u8 {o : List Int} (uo : U8s o) {σ : Rs} {m : Int} : U8s (tak o σ m).1 := by
  unfold tak
  split
  · intro x hx; simp at hx
  · exact (uo.drop _).take _
theorem gL_bad : ∀ (b : List Int) (k : Nat) (n : Int), (gL b k n).2.2 ≠ 0 → (gL b k n).1 = 0
  | [], _, _, _ => rfl
  | c :: cs, k, n, h => by
    rw [gL] at h ⊢
    split
    · rfl
    · rename_i h1
      rw [if_neg h1] at h
      split
      · rename_i h2
        rw [if_pos h2] at h
        split
        · rfl
        · rename_i h3
          rw [if_neg h3] at h
          simp at h
      · rename_i h2
        rw [if_neg h2] at h
        exact gL_bad cs _ _ h
/-- A list in blocks from B on. -/
def RdF {α : Type} (enc : α → Value) (w : World) (B : Nat) (A : Option Addr) (xs : List α) : Prop := ∀ k x, xs[k]? = some x → ∃ b off, A = some ⟨b, off, none⟩ ∧ B ≤ b ∧ b < w.heap.size ∧ w.cell? ⟨b, off + k, none⟩ = some (enc x)
section
variable {α : Type} {enc : α → Value} {w w' : World} {B g h : Nat} {A : Option Addr} {xs : List α}
theorem RdF.nil (w : World) (B : Nat) : RdF enc w B none ([] : List α) := fun k x hx => by simp at hx
theorem RdF.rd (r : RdF enc w B A xs) : Rd enc w w.heap.size A xs := fun k x hx => by
  obtain ⟨b, off, e, _, hl, hc⟩ := r k x hx
  exact ⟨b, off, e, hl, hc⟩
theorem RdF.off (r : RdF enc w B A xs) (a : Off g h w w') (hg : g < B) (hh : h < B) : RdF enc w' B A xs := fun k x hx => by
  obtain ⟨b, off, e, hB, hl, hc⟩ := r k x hx
  exact ⟨b, off, e, hB, Nat.lt_of_lt_of_le hl a.size, (World.cell?_of_block (w := w) (a := ⟨b, off + k, none⟩) (a.block b hl (by omega) (by omega))).trans hc⟩
theorem RdF.less {B' : Nat} (r : RdF enc w B A xs) (hB : B' ≤ B) : RdF enc w B' A xs := fun k x hx => by
  obtain ⟨b, off, e, h1, hl, hc⟩ := r k x hx
  exact ⟨b, off, e, Nat.le_trans hB h1, hl, hc⟩
theorem RdF.of_own {base c : Nat} {e : TypeId} (ho : w.ownsRow base e 1 (.slice A xs.length c) xs.length (xs.map enc)) : RdF enc w base A xs := fun k x hx => by
  obtain ⟨b, off, e1, hl, hc⟩ := own_rd ho k x hx
  subst e1
  exact ⟨b, off, rfl, (ho.lt b rfl).1, hl, hc⟩
theorem RdF.below (r : RdF enc w B A xs) (a : Below w.heap.size w w') : RdF enc w' B A xs := fun k x hx => by
  obtain ⟨b, off, e, hB, hl, hc⟩ := r k x hx
  exact ⟨b, off, e, hB, Nat.lt_of_lt_of_le hl a.size, (a.cell (p := ⟨b, off + k, none⟩) hl).trans hc⟩
end
/-- A list told that lies in blocks of the call's own, and an error. -/
def RdG {α : Type} (enc : α → Value) (xs : List α) (er : Int) (w : World) (e : Ending) (w' : World) : Prop :=
  ∃ A c, e = .returned (.tuple #[.slice A xs.length c, .int .i64 er]) ∧ RdF enc w' w.heap.size A xs ∧ Below w.heap.size w w'
theorem bysV_le (wd m : Int) : bysV wd m ≤ 20000 := by
  unfold bysV
  split
  · rename_i h
    obtain ⟨⟨h1, h2⟩, h3, h4⟩ := bys_ok h
    have := Int.mul_le_mul h2 h4 h3 (by decide)
    omega
  · decide
theorem pl_ReadX {A : Option Addr} {c : Nat} (many : Int) (b : List Int) (hm : I64 many) (hl : b.length ≤ 100000) (ub : U8s b) (w : World) (ra : Rd (Value.int .u8) w w.heap.size A b) :
    Calls Tryz.prog 116 #[.int .i64 many, .slice A b.length c] w (RdG Value.bool (bitV 1 many b) (bitE 1 many b) w) := by
  have CU := hid (pl_Unpack (A := A) (c := c) 1 many b (by decide) hm hl ub w ra)
  by_cases h : bitE 1 many b = 0
  · have hb := bys_ok (bitE_ok h).1
    obtain ⟨m, rfl⟩ := Int.eq_ofNat_of_zero_le hb.2.1
    have hm4 : m ≤ 4096 := by omega
    have hV : bitV 1 (m : Int) b = mkB m (fB b) := by
      unfold bitV
      rw [if_pos h, Int.toNat_natCast, show (1 : Int).toNat = 1 from rfl, Nat.one_mul]
    have hU := upk_one h
    rw [Int.toNat_natCast] at hU
    rw [hU, h] at CU
    rw [hV, h]
    obtain ⟨f, hf⟩ : ∃ f, fB b = f := ⟨_, rfl⟩
    rw [hf] at CU ⊢
    obtain ⟨L, hL⟩ : ∃ L, (List.range m).map (fun i => b2 (f i)) = L := ⟨_, rfl⟩
    have hLl : L.length = m := by rw [← hL]; simp
    have HLa : Hid (∀ i x, L[i]? = some x → i < m → x = b2 (f i)) := hid (fun i x hx hi => by
      rw [← hL, List.getElem?_map, List.getElem?_range hi, Option.map_some] at hx
      injection hx with hx
      exact hx.symm)
    rw [hL] at CU
    have HLl := hid hLl
    have hmk := fun W => run_make_row' (P := Tryz.prog) 27 4 (.bool false) 1 Tryz.underlying27 info_bool rfl .i64 .i64 m (by omega) (by omega) W
    clear h hV hU hf hL ra ub hb hm
    go_enter Tryz.func116, Tryz.ntmps116
    go_wp2_with fail
    refine CU.out.mono ?_
    rintro _ w1 ⟨A1, c1, rfl, ho, hb1⟩
    have RL := hid (own_rd ho)
    have HK := hid hb1
    rw [hLl]
    clear ho hb1 CU hLl
    go_wp2_with fail
    go_loopw [9, 10, 24] (fun i0 n0 i wr => ∃ k : Nat, k ≤ m ∧ i = .int .i64 k ∧ wr.rowIs w1.heap.size 4 m (fun j => .bool (if j < k then f j else false)) ∧ Below w1.heap.size w1 wr) (fun _ _ i _ => m - (intOf i).toNat)
    case atStart => exact ⟨0, by omega, rfl, by simpa using World.rowIs_made w1 (.bool false) m _, by go_grown⟩
    case round =>
      obtain ⟨k, hk, rfl, hrow, hbel⟩ := hrel
      have HR := hid hrow
      clear hmk
      by_cases hlt : k < m
      · obtain ⟨g1, o1, x, rfl, l1, ex, c1⟩ := (RL.out.below hbel).at_ (k := k) (by rw [HLl.out]; exact hlt)
        have hx := HLa.out k x ex hlt
        have f1 := hrow.frozen k
        have c2 := hrow.cell hlt
        rw [if_neg (Nat.lt_irrefl k)] at c2
        have e1 : (x == 1) = f k := by rw [hx]; cases f k <;> rfl
        have hxb : 0 ≤ x ∧ x ≤ 1 := by rw [hx]; exact b2_le _
        obtain ⟨v, hv⟩ : ∃ v, f k = v := ⟨_, rfl⟩
        rw [hv] at e1
        have HV := hid hv
        clear ex hx hrow hv
        go_wp2_with fail
        go_roundw
        case rel =>
          refine ⟨k + 1, by omega, by go_num, ?_, hbel.setCell (Nat.le_refl _) _⟩
          refine (HR.out.set k (.bool v)).congr fun j hj => ?_
          by_cases e : j = k
          · rw [if_pos e, e, if_pos (by omega), HV.out]
          · rw [if_neg e]
            by_cases e2 : j < k
            · rw [if_pos e2, if_pos (by omega)]
            · rw [if_neg e2, if_neg (by omega)]
        case measure => simp [intOf]; omega
      · obtain rfl : k = m := by omega
        have HB := hid hbel
        clear hrow
        go_wp2_with fail
        go_ret2
        refine ⟨some ⟨w1.heap.size, 0, none⟩, k, ?_, ?_, HK.out.trans (hbel.mono HK.out.size)⟩
        · rw [mkB_len]; rfl
        · intro j x hx
          have hj : j < k := by have := (List.getElem?_eq_some_iff.1 hx).1; rw [mkB_len] at this; exact this
          refine ⟨w1.heap.size, 0, rfl, HK.out.size, HR.out.lt, ?_⟩
          rw [Nat.zero_add, HR.out.cell hj, if_pos hj]
          rw [mkB_at _ hj] at hx
          injection hx with hx
          rw [hx]
  · have e : bitV 1 many b = [] := if_neg h
    have e2 : upkV 1 many b = [] := if_neg h
    rw [e]
    rw [e2] at CU
    obtain ⟨E, hE⟩ : ∃ E, bitE 1 many b = E := ⟨_, rfl⟩
    rw [hE] at CU h ⊢
    have hne : (E != 0) = true := by simpa using h
    clear h e e2 hE ra ub
    go_enter Tryz.func116, Tryz.ntmps116
    go_wp2_with fail
    refine CU.out.mono ?_
    rintro _ w1 ⟨A1, c1, rfl, _, hb1⟩
    go_wp2_with fail
    go_ret2
    exact ⟨none, 0, rfl, RdF.nil _ _, hb1⟩
theorem fr_one {g c : Nat} {A : Option Addr} (o : List Int) (ho : o.length ≤ c) (hc : c ≤ 9223372036854775807) (hol : o.length ≤ 70000) (uo : U8s o) (σ : Rs) (ha : σ.1 ≤ o.length) (w : World) (hb : RdB w g A o.length c σ) (ra : Rd (Value.int .u8) w g A o) :
    Calls Tryz.prog 44 #[.pointer (some ⟨g, 0, none⟩)] w fun r w' => r = .returned (.int .i64 (one2 o σ).1) ∧ RdB w' g A o.length c (one2 o σ).2 ∧ Off g g w w' := by
  have CT := hid (fr_take o ho hc hol σ ha 1 (by decide) (by decide) w hb ra)
  have hl : (tak o σ 1).1.length ≤ 1 := by
    unfold tak
    split
    · simp
    · simp only [List.length_take]; omega
  have hu := tak_u8 uo (σ := σ) (m := 1)
  unfold one2
  simp only
  obtain ⟨p, τ, ht⟩ : ∃ p τ, tak o σ 1 = (p, τ) := ⟨_, _, rfl⟩
  rw [ht] at CT hl hu ⊢
  simp only at CT hl hu ⊢
  clear hb ra ht ha
  match p, hl with
  | [], _ =>
    go_enter Tryz.func44, Tryz.ntmps44
    go_wp2_with fail
    refine CT.out.mono ?_
    rintro _ w1 ⟨A2, c2, rfl, hr1, hb1, ho1⟩
    have HB := hid hb1
    clear hr1 hb1
    go_wp2_with fail
    go_ret
    exact ⟨rfl, HB.out, ho1⟩
  | [x], _ =>
    have hx := hu x (by simp)
    go_enter Tryz.func44, Tryz.ntmps44
    go_wp2_with fail
    refine CT.out.mono ?_
    rintro _ w1 ⟨A2, c2, rfl, hr1, hb1, ho1⟩
    obtain ⟨b1, o1, rfl, l1, cx⟩ := hr1 0 x rfl
    rw [Nat.add_zero] at cx
    have HB := hid hb1
    clear hr1 hb1
    go_wp2_with fail
    go_ret
    exact ⟨rfl, HB.out, ho1⟩
theorem fr_number {g c : Nat} {A : Option Addr} (o : List Int) (ho : o.length ≤ c) (hc : c ≤ 9223372036854775807) (hol : o.length ≤ 70000) (uo : U8s o) (σ : Rs) (ha : σ.1 ≤ o.length) (w : World) (hb : RdB w g A o.length c σ) (ra : Rd (Value.int .u8) w g A o) (hg : g < w.heap.size) :
    Calls Tryz.prog 45 #[.pointer (some ⟨g, 0, none⟩)] w fun r w' => r = .returned (.int .i64 (num2 o σ).1) ∧ RdB w' g A o.length c (num2 o σ).2 ∧ Off g g w w' := by
  obtain ⟨c0, c1, c2, f0, f1, f2⟩ := hb.three
  obtain ⟨a, z⟩ := σ
  simp only at ha c1 c2
  have CG : Hid (∀ n, Calls Tryz.prog 67 #[.slice A o.length c, .int .i64 (a : Int)] (w.drewN n) fun e w' => e = .returned (.tuple #[.int .u64 (getN o a), .int .i64 (getA o a), .int .i64 (getE o a)]) ∧ w.drewN n = w') := hid (fun n => leb_Get (A := A) (c := c) o ho hc uo a (by unfold I64; omega) (w.drewN n) ra)
  have CP := hid (fun W hW => fr_pass (g := g) (n := o.length) (c := c) (A := A) (a, z) (getA o a) (getE o a) (fun h => by have := (get_fwd uo h).1; omega) W hW)
  have hN : RowKit.wrap64 (getN o a) = w64 (getN o a) := by
    by_cases he : getE o a = 0
    · exact wrap_w64 (get_ok uo he).2.1
    · have : getN o a = 0 := by
        unfold getE at he
        unfold getN
        rw [if_neg (by omega)] at he ⊢
        exact gL_bad _ _ _ he
      rw [this, wrap_w64 (by decide)]
  have HB := hid hb
  unfold num2
  simp only
  obtain ⟨N, hNN⟩ : ∃ N, getN o a = N := ⟨_, rfl⟩
  obtain ⟨X, hX⟩ : ∃ N, getA o a = N := ⟨_, rfl⟩
  obtain ⟨E, hE⟩ : ∃ N, getE o a = N := ⟨_, rfl⟩
  rw [hNN, hX, hE] at CG
  rw [hX, hE] at CP
  rw [hNN] at hN
  rw [hNN, hX, hE]
  obtain ⟨V, hV⟩ : ∃ V, w64 N = V := ⟨_, rfl⟩
  rw [hV] at hN ⊢
  have hN2 : IntKind.i64.wrap N = V := (Go.IntWalk.i64_left N).trans hN
  clear hb ra ha hNN hX hE hV
  go_enter Tryz.func45, Tryz.ntmps45
  go_wp2_with fail
  go_quiet ((go_at_call 67; exact quietR CG.out _))
  go_wp2_with fail
  have HBq : RdB (w.drewN nq) g A o.length c (a, z) := HB.out
  refine (CP.out _ HBq).mono ?_
  clear HBq
  rintro _ w1 ⟨rfl, hb1, ho1⟩
  have HB1 := hid hb1
  clear hb1
  go_wp2_with fail
  go_ret
  exact ⟨rfl, HB1.out, (Off.of (belowN _ w _)).trans ho1⟩
theorem fr_signs {g c : Nat} {A : Option Addr} (o : List Int) (ho : o.length ≤ c) (hc : c ≤ 9223372036854775807) (hol : o.length ≤ 70000) (uo : U8s o) (σ : Rs) (ha : σ.1 ≤ o.length) (m : Int) (hm : I64 m) (w : World) (hb : RdB w g A o.length c σ) (ra : Rd (Value.int .u8) w g A o) (hg : g < w.heap.size) :
    Calls Tryz.prog 98 #[.pointer (some ⟨g, 0, none⟩), .int .i64 m] w fun r w' => ∃ A2 c2, r = .returned (.slice A2 (sgs2 o σ m).1.length c2) ∧ RdF Value.bool w' w.heap.size A2 (sgs2 o σ m).1 ∧ RdB w' g A o.length c (sgs2 o σ m).2 ∧ Off g g w w' := by
  have CB := hid (fun W => pl_Bytes 1 m (by decide) hm W)
  have hl := tak_len (o := o) (σ := σ) (m := bysV 1 m)
  have hu := tak_u8 uo (σ := σ) (m := bysV 1 m)
  have CT := hid (fr_take o ho hc hol σ ha (bysV 1 m) (bysV_pos _ _) (by have := bysV_le 1 m; omega) w hb ra)
  unfold sgs2
  simp only
  obtain ⟨p, τ, ht⟩ : ∃ p τ, tak o σ (bysV 1 m) = (p, τ) := ⟨_, _, rfl⟩
  rw [ht] at CT hl hu ⊢
  simp only at CT hl hu ⊢
  obtain ⟨t1, t2⟩ := τ
  simp only at CT ⊢
  have CR := hid (fun (A2 : Option Addr) (c2 : Nat) W hW => pl_ReadX (A := A2) (c := c2) m p hm (by omega) hu W hW)
  have CP := hid (fun W hW => fr_pass (g := g) (n := o.length) (c := c) (A := A) (t1, t2) (t1 : Int) (bitE 1 m p) (fun _ => by omega) W hW)
  obtain ⟨L, hL⟩ : ∃ L, bitV 1 m p = L := ⟨_, rfl⟩
  obtain ⟨E, hE⟩ : ∃ L, bitE 1 m p = L := ⟨_, rfl⟩
  obtain ⟨N, hN⟩ : ∃ N, bysV 1 m = N := ⟨_, rfl⟩
  obtain ⟨NE, hNE⟩ : ∃ N, bysE 1 m = N := ⟨_, rfl⟩
  rw [hL, hE] at CR
  rw [hE] at CP
  rw [hN, hNE] at CB
  rw [hN] at CT
  rw [hL, hE]
  obtain ⟨υ, hυ⟩ : ∃ υ, pas (t1, t2) (t1 : Int) E = υ := ⟨_, rfl⟩
  rw [hυ] at CP ⊢
  clear hb ra ht ha hL hE hN hNE hυ hl hu
  go_enter Tryz.func98, Tryz.ntmps98
  go_wp2_with fail
  refine (CB.out _).mono ?_
  rintro _ _ ⟨rfl, rfl⟩
  go_wp2_with fail
  refine CT.out.mono ?_
  rintro _ w1 ⟨A2, c2, rfl, hr1, hb1, o1⟩
  have hg1 : g < w1.heap.size := Nat.lt_of_lt_of_le hg o1.size
  have HR1 := hid (hr1.more (Nat.le_of_lt hg1))
  have HB1 := hid hb1
  clear hr1 hb1
  go_wp2_with fail
  refine (CR.out _ _ _ HR1.out).mono ?_
  rintro _ w2 ⟨A3, c3, rfl, hr2, hb2⟩
  have HB2 := hid (HB1.out.below hb2 hg1)
  have HR2 := hid hr2
  have o2 := o1.trans (Off.of hb2)
  obtain ⟨q0, q1, q2, f0, f1, f2⟩ := RdB.three HB2.out
  clear hr2 HB1 HR1
  simp only at q1 q2
  go_wp2_with fail
  refine (CP.out _ HB2.out).mono ?_
  rintro _ w3 ⟨rfl, hb3, o3⟩
  have HR3 := hid ((HR2.out.off o3 hg1 hg1).less o1.size)
  have HB3 := hid hb3
  have o4 := o2.trans o3
  clear hb3 HR2 q0 q1 q2 f0 f1 f2
  go_wp2_with fail
  go_ret
  exact ⟨A3, c3, rfl, HR3.out, HB3.out, o4⟩
theorem fr_planes {g c : Nat} {A : Option Addr} (o : List Int) (ho : o.length ≤ c) (hc : c ≤ 9223372036854775807) (hol : o.length ≤ 70000) (uo : U8s o) (σ : Rs) (ha : σ.1 ≤ o.length) (wd m : Int) (hwd : I64 wd) (hm : I64 m) (w : World) (hb : RdB w g A o.length c σ) (ra : Rd (Value.int .u8) w g A o) (hg : g < w.heap.size) :
    Calls Tryz.prog 97 #[.pointer (some ⟨g, 0, none⟩), .int .i64 wd, .int .i64 m] w fun r w' => ∃ A2 c2, r = .returned (.slice A2 (pln2 o σ wd m).1.length c2) ∧ RdF (Value.int .u64) w' w.heap.size A2 (pln2 o σ wd m).1 ∧ RdB w' g A o.length c (pln2 o σ wd m).2 ∧ Off g g w w' := by
  have CB := hid (fun W => pl_Bytes wd m hwd hm W)
  have hl := tak_len (o := o) (σ := σ) (m := bysV wd m)
  have hu := tak_u8 uo (σ := σ) (m := bysV wd m)
  have CT := hid (fr_take o ho hc hol σ ha (bysV wd m) (bysV_pos _ _) (by have := bysV_le wd m; omega) w hb ra)
  unfold pln2
  simp only
  obtain ⟨p, τ, ht⟩ : ∃ p τ, tak o σ (bysV wd m) = (p, τ) := ⟨_, _, rfl⟩
  rw [ht] at CT hl hu ⊢
  simp only at CT hl hu ⊢
  obtain ⟨t1, t2⟩ := τ
  simp only at CT ⊢
  have CR := hid (fun (A2 : Option Addr) (c2 : Nat) W hW => pl_Unweave (A := A2) (c := c2) wd m p hwd hm (by omega) hu W hW)
  have CP := hid (fun W hW => fr_pass (g := g) (n := o.length) (c := c) (A := A) (t1, t2) (t1 : Int) (bitE wd m p) (fun _ => by omega) W hW)
  obtain ⟨L, hL⟩ : ∃ L, uwvV wd m p = L := ⟨_, rfl⟩
  obtain ⟨E, hE⟩ : ∃ L, bitE wd m p = L := ⟨_, rfl⟩
  obtain ⟨N, hN⟩ : ∃ N, bysV wd m = N := ⟨_, rfl⟩
  obtain ⟨NE, hNE⟩ : ∃ N, bysE wd m = N := ⟨_, rfl⟩
  rw [hL, hE] at CR
  rw [hE] at CP
  rw [hN, hNE] at CB
  rw [hN] at CT
  rw [hL, hE]
  obtain ⟨υ, hυ⟩ : ∃ υ, pas (t1, t2) (t1 : Int) E = υ := ⟨_, rfl⟩
  rw [hυ] at CP ⊢
  clear hb ra ht ha hL hE hN hNE hυ hl hu
  go_enter Tryz.func97, Tryz.ntmps97
  go_wp2_with fail
  refine (CB.out _).mono ?_
  rintro _ _ ⟨rfl, rfl⟩
  go_wp2_with fail
  refine CT.out.mono ?_
  rintro _ w1 ⟨A2, c2, rfl, hr1, hb1, o1⟩
  have hg1 : g < w1.heap.size := Nat.lt_of_lt_of_le hg o1.size
  have HR1 := hid (hr1.more (Nat.le_of_lt hg1))
  have HB1 := hid hb1
  clear hr1 hb1
  go_wp2_with fail
  refine (CR.out _ _ _ HR1.out).mono ?_
  rintro _ w2 ⟨A3, c3, rfl, hr2, hb2⟩
  have HB2 := hid (HB1.out.below hb2 hg1)
  have HR2 := hid (RdF.of_own hr2)
  have o2 := o1.trans (Off.of hb2)
  obtain ⟨q0, q1, q2, f0, f1, f2⟩ := RdB.three HB2.out
  clear hr2 HB1 HR1
  simp only at q1 q2
  go_wp2_with fail
  refine (CP.out _ HB2.out).mono ?_
  rintro _ w3 ⟨rfl, hb3, o3⟩
  have HR3 := hid ((HR2.out.off o3 hg1 hg1).less o1.size)
  have HB3 := hid hb3
  have o4 := o2.trans o3
  clear hb3 HR2 q0 q1 q2 f0 f1 f2
  go_wp2_with fail
  go_ret
  exact ⟨A3, c3, rfl, HR3.out, HB3.out, o4⟩
theorem mny_len {o : List Int} : ∀ (k : Nat) (x : Int) (S : List Int), U8s o → (0 ≤ x ∧ x ≤ o.length) → S.length ≤ x → (mny o k x S).1.length ≤ o.length ∧ ((mny o k x S).2.2 = 0 → 0 ≤ (mny o k x S).2.1 ∧ (mny o k x S).2.1 ≤ o.length)
  | 0, x, S, _, hx, hS => by
    rw [mny]
    simp only
    exact ⟨by omega, fun _ => hx⟩
  | k + 1, x, S, uo, hx, hS => by
    rw [mny]
    split
    · rename_i he
      have h := get_fwd uo he
      exact mny_len k _ _ uo ⟨by omega, h.2⟩ (by rw [List.length_append, List.length_singleton]; omega)
    · rename_i he
      simp only
      exact ⟨by simp, fun h => absurd h he⟩
theorem mny_u64 {o : List Int} : ∀ (k : Nat) (x : Int) (S : List Int), U8s o → U64s S → U64s (mny o k x S).1
  | 0, x, S, _, hS => by
    rw [mny]; exact hS
  | k + 1, x, S, uo, hS => by
    rw [mny]
    split
    · rename_i he
      refine mny_u64 k _ _ uo (fun y hy => ?_)
      rcases List.mem_append.1 hy with h | h
      · exact hS y h
      · simp at h; subst h; exact (get_ok uo he).2.1
    · intro y hy; simp at hy
theorem mnyV_all {o : List Int} (uo : U8s o) (m : Int) (a : Nat) (ha : a ≤ o.length) : (mnyV o m a).1.length ≤ o.length ∧ ((mnyV o m a).2.2 = 0 → 0 ≤ (mnyV o m a).2.1 ∧ (mnyV o m a).2.1 ≤ o.length) ∧ U64s (mnyV o m a).1 := by
  unfold mnyV
  split
  · exact ⟨by simp, fun h => by simp at h, by intro y hy; simp at hy⟩
  · have h := mny_len (o := o) m.toNat a [] uo ⟨by omega, by omega⟩ (by simp)
    exact ⟨h.1, h.2, mny_u64 _ _ _ uo (by intro y hy; simp at hy)⟩
theorem fr_numbers {g c : Nat} {A : Option Addr} (o : List Int) (ho : o.length ≤ c) (hc : c ≤ 9223372036854775807) (hol : o.length ≤ 70000) (uo : U8s o) (σ : Rs) (ha : σ.1 ≤ o.length) (m : Int) (hm : I64 m) (w : World) (hb : RdB w g A o.length c σ) (ra : Rd (Value.int .u8) w g A o) (hg : g < w.heap.size) :
    Calls Tryz.prog 95 #[.pointer (some ⟨g, 0, none⟩), .int .i64 m] w fun r w' => ∃ A2 c2, r = .returned (.slice A2 (nms2 o σ m).1.length c2) ∧ RdF (Value.int .i64) w' w.heap.size A2 (nms2 o σ m).1 ∧ RdB w' g A o.length c (nms2 o σ m).2 ∧ Off g g w w' := by
  obtain ⟨c0, c1, c2, f0, f1, f2⟩ := hb.three
  obtain ⟨a, z⟩ := σ
  simp only at ha c1 c2
  unfold I64 at hm
  have hall := mnyV_all uo m a ha
  have CM0 := fun W hW => leb_ManyX (A := A) (c := c) o ho hc uo (by omega) a m (by omega) (by omega) hm.1 hm.2 W hW
  unfold nms2
  simp only
  obtain ⟨L, y, E, hr⟩ : ∃ L y E, mnyV o m a = (L, y, E) := ⟨_, _, _, rfl⟩
  rw [hr] at hall CM0 ⊢
  have CM : Hid (∀ W, Rd (Value.int .u8) W W.heap.size A o → Calls Tryz.prog 112 #[.slice A o.length c, .int .i64 (a : Int), .int .i64 m] W fun e w' => ∃ A2 d2, e = .returned (.tuple #[.slice A2 L.length d2, .int .i64 y, .int .i64 E]) ∧ w'.ownsRow W.heap.size 47 1 (.slice A2 L.length d2) L.length (L.map (Value.int .u64)) ∧ Below W.heap.size W w') := hid CM0
  clear CM0
  simp only at hall ⊢
  have CP := hid (fun W hW => fr_pass (g := g) (n := o.length) (c := c) (A := A) (a, z) y E (fun h => (hall.2.1 h).1) W hW)
  obtain ⟨υ, hυ⟩ : ∃ υ, pas (a, z) y E = υ := ⟨_, rfl⟩
  rw [hυ] at CP ⊢
  have UL := hid hall.2.2
  have hLl : L.length ≤ 70000 := by have := hall.1; omega
  have HB0 := hid hb
  have HRA := hid ra
  have lg : g < w.heap.size := hg
  have hmk := fun W => run_make_row' (P := Tryz.prog) 22 2 (.int .i64 0) 8 Tryz.underlying22 info_i64 rfl .i64 .i64 L.length (by omega) (by omega) W
  clear hall hr hυ hb ra ha
  rw [List.length_map]
  go_enter Tryz.func95, Tryz.ntmps95
  go_wp2_with fail
  first | (go_region_held3 (fun w' => w'.cell? ⟨g, 0, none⟩ = some (.slice A o.length c) ∧ w'.cell? ⟨g, 1, none⟩ = some (.int .i64 (a : Int)) ∧ w'.cell? ⟨g, 2, none⟩ = some (.bool z) ∧ Below w.heap.size w w') (first | exact ⟨c0, c1, c2, (Below.refl _ _).drew⟩ | (have hk := below_step ((Below.refl _ _).drew) hb1 (Nat.le_refl _); exact ⟨(hk.cell lg).trans c0, (hk.cell lg).trans c1, (hk.cell lg).trans c2, hk⟩) | assumption) (first | (go_at_call 112; refine (CM.out _ (by exact (HRA.out.more (Nat.le_of_lt lg)))).mono ?_; rintro _ w1 ⟨A1, d1, rfl, ho1, hb1⟩) | fail)) | fail
  all_goals
    have HO1 := hid (RdF.of_own ho1)
    have hB1 := hid ((show RdB w.drew g A o.length c (a, z) from HB0.out).below hb1 lg)
    have q1 : Off g g w w1 := (show Off g g w w.drew from Off.of ((Below.refl _ _).drew)).trans (Off.of hb1)
    clear ho1
    go_wp2_with fail
    refine (CP.out _ hB1.out).mono ?_
    rintro _ w2 ⟨rfl, hb2, o2⟩
    have HO2 := hid (HO1.out.off o2 lg lg)
    have HB2 := hid hb2
    have q2 := q1.trans o2
    have hq2 := q2.size
    clear hb2 HO1 hB1 hb1 CM CP
    go_wp2_with fail
    go_loopw [36] (fun i wr => ∃ k : Nat, k ≤ L.length ∧ i = .int .i64 k ∧ wr.rowIs w2.heap.size 2 L.length (fun j => if j < k then .int .i64 (zagI (L.getD j 0)) else .int .i64 0) ∧ Below w2.heap.size w2 wr) (fun i _ => L.length - (intOf i).toNat)
    case atStart => exact ⟨0, by omega, rfl, by simpa using World.rowIs_made w2 (.int .i64 0) L.length _, by go_grown⟩
    case round =>
      obtain ⟨k, hk, rfl, hrow, hbel⟩ := hrel
      have hz := hrow.lt
      clear hmk
      by_cases hlt : k < L.length
      · obtain ⟨b1, o1, x, rfl, l1, ex, c1⟩ := (HO2.out.rd.below hbel).at_ hlt
        have CZ := hid (leb_Zag x (UL.out.at_ ex))
        obtain ⟨v, hv⟩ : ∃ v, zagI x = v := ⟨_, rfl⟩
        rw [hv] at CZ
        have HZ : Hid (zagI (L.getD k 0) = v) := by rw [getD_of ex]; exact hv
        have f1 := hrow.frozen k
        have c2 := hrow.cell hlt
        rw [if_neg (Nat.lt_irrefl k)] at c2
        clear ex hv
        go_wp2_with fail
        refine (CZ.out _).mono ?_
        rintro _ _ ⟨rfl, rfl⟩
        go_wp2_with fail
        go_roundw
        case rel =>
          refine ⟨k + 1, by omega, by go_num, ?_, hbel.setCell (Nat.le_refl _) _⟩
          refine (hrow.set k (.int .i64 v)).congr fun j hj => ?_
          by_cases e : j = k
          · subst e
            rw [if_pos rfl, if_pos (by omega), HZ.out]
          · rw [if_neg e]
            by_cases e2 : j < k
            · rw [if_pos e2, if_pos (by omega)]
            · rw [if_neg e2, if_neg (by omega)]
        case measure => simp [intOf]; omega
      · obtain rfl : k = L.length := by omega
        have HRW := hid hrow
        have HBL := hid hbel
        clear hrow hbel
        go_wp2_with fail
        go_ret
        refine ⟨some ⟨w2.heap.size, 0, none⟩, _, rfl, fun j x hx => ?_, HB2.out.below HBL.out (by have := HB2.out.lt (by simp); exact this), q2.trans (Off.of HBL.out)⟩
        rw [List.getElem?_map, Option.map_eq_some_iff] at hx
        obtain ⟨y, hy, rfl⟩ := hx
        have hj := (List.getElem?_eq_some_iff.1 hy).1
        refine ⟨w2.heap.size, 0, rfl, hq2, HRW.out.lt, ?_⟩
        rw [Nat.zero_add, HRW.out.cell hj, if_pos hj, getD_of hy]
end Go.Proofs.YtjkhdfncahhnoaaGreat
/- The program's reader: a vector's parts by its scheme. -/
namespace Go.Proofs.YtjkhdfncahhnoaaGreat
open Go.RowKit
set_option maxHeartbeats 1000000
set_option maxRecDepth 100000
set_option linter.unusedVariables false
def cellsT (s : SentV) (p : SentP) : List Value := [.int .i64 s.sch, .int .i64 s.dim, .slice p.AL s.L.length p.cL, .slice p.AV s.V.length p.cV, .int .i64 s.scale, .int .i64 s.wide, .slice p.AE s.lev.length p.cE, .slice p.AN s.neg.length p.cN]
def RdFS (w : World) (B : Nat) (s : SentV) (p : SentP) : Prop := RdF (Value.int .i64) w B p.AL s.L ∧ RdF (Value.int .i64) w B p.AV s.V ∧ RdF (Value.int .u64) w B p.AE s.lev ∧ RdF Value.bool w B p.AN s.neg
theorem box_T {w : World} {h : Nat} {s : SentV} {p : SentP} (hb : BoxL w h (cellsT s p)) : (w.cell? ⟨h, 0, none⟩ = some (.int .i64 s.sch) ∧ w.cell? ⟨h, 1, none⟩ = some (.int .i64 s.dim) ∧ w.cell? ⟨h, 2, none⟩ = some (.slice p.AL s.L.length p.cL) ∧ w.cell? ⟨h, 3, none⟩ = some (.slice p.AV s.V.length p.cV) ∧ w.cell? ⟨h, 4, none⟩ = some (.int .i64 s.scale) ∧ w.cell? ⟨h, 5, none⟩ = some (.int .i64 s.wide) ∧ w.cell? ⟨h, 6, none⟩ = some (.slice p.AE s.lev.length p.cE) ∧ w.cell? ⟨h, 7, none⟩ = some (.slice p.AN s.neg.length p.cN)) ∧
    (w.frozen? ⟨h, 0, none⟩ = false ∧ w.frozen? ⟨h, 1, none⟩ = false ∧ w.frozen? ⟨h, 2, none⟩ = false ∧ w.frozen? ⟨h, 3, none⟩ = false ∧ w.frozen? ⟨h, 4, none⟩ = false ∧ w.frozen? ⟨h, 5, none⟩ = false ∧ w.frozen? ⟨h, 6, none⟩ = false ∧ w.frozen? ⟨h, 7, none⟩ = false) := BoxL.eight hb
/-- What a reader of parts leaves: the vector in its box, the reader in its own. -/
def VecOut (g h : Nat) (A : Option Addr) (n c B : Nat) (r : SentV × Rs) (w : World) (e : Ending) (w' : World) : Prop :=
  e = .returned (.tuple #[]) ∧ (∃ p, BoxL w' h (cellsT r.1 p) ∧ RdFS w' B r.1 p) ∧ RdB w' g A n c r.2 ∧ Off g h w w'
def bareS (sch dim : Int) : SentV := ⟨sch, dim, [], [], 0, 0, [], []⟩
def bareP : SentP := ⟨none, 0, none, 0, none, 0, none, 0⟩
theorem one_i64 {o : List Int} (uo : U8s o) (σ : Rs) : I64 (one2 o σ).1 := by
  have hu := tak_u8 uo (σ := σ) (m := 1)
  unfold one2
  simp only
  obtain ⟨p, t, ht⟩ : ∃ p t, tak o σ 1 = (p, t) := ⟨_, _, rfl⟩
  rw [ht] at hu ⊢
  cases p with
  | nil => show I64 0; decide
  | cons x r =>
    have := hu x (by simp)
    show I64 x
    unfold I64; omega
theorem fr_dense {g h c : Nat} {A : Option Addr} (o : List Int) (ho : o.length ≤ c) (hc : c ≤ 9223372036854775807) (hol : o.length ≤ 70000) (uo : U8s o) (σ : Rs) (ha : σ.1 ≤ o.length) (dim : Int) (hd : I64 dim) (w : World) (hb : RdB w g A o.length c σ) (ra : Rd (Value.int .u8) w g A o) (hs : BoxL w h (cellsT (bareS 0 dim) bareP)) (hgh : g < h) (hh : h < w.heap.size) :
    Calls Tryz.prog 69 #[.pointer (some ⟨g, 0, none⟩), .pointer (some ⟨h, 0, none⟩)] w (VecOut g h A o.length c w.heap.size (dns2 o dim σ) w) := by
  have CN := hid (fr_numbers o ho hc hol uo σ ha dim hd w hb ra (by omega))
  unfold dns2
  obtain ⟨V, υ, hV⟩ : ∃ V υ, nms2 o σ dim = (V, υ) := ⟨_, _, rfl⟩
  rw [hV] at CN ⊢
  simp only at CN ⊢
  obtain ⟨⟨k0, k1, k2, k3, k4, k5, k6, k7⟩, f0, f1, f2, f3, f4, f5, f6, f7⟩ := box_T hs
  have HS := hid hs
  have kd : w.cell? ⟨h, 1, none⟩ = some (.int .i64 dim) := k1
  clear hV hb ra hs k0 k1 k2 k3 k4 k5 k6 k7 f0 f1 f2 f3 f4 f5 f6 f7 ha
  go_enter Tryz.func69, Tryz.ntmps69
  go_wp2_with fail
  refine CN.out.mono ?_
  rintro _ w1 ⟨A2, c2, rfl, hr1, hb1, o1⟩
  have hs1 := o1.box HS.out (by simp [cellsT]) (by omega) (by omega)
  obtain ⟨⟨k0, k1, k2, k3, k4, k5, k6, k7⟩, f0, f1, f2, f3, f4, f5, f6, f7⟩ := box_T hs1
  have hw := Off.setR (g := g) (h := h) (w := w1) 3 (.slice A2 V.length c2)
  have HQ : Hid ((∃ p, BoxL (w1.setCell ⟨h, 3, none⟩ (.slice A2 V.length c2)) h (cellsT ⟨0, dim, [], V, 0, 0, [], []⟩ p) ∧ RdFS (w1.setCell ⟨h, 3, none⟩ (.slice A2 V.length c2)) w.heap.size ⟨0, dim, [], V, 0, 0, [], []⟩ p) ∧ RdB (w1.setCell ⟨h, 3, none⟩ (.slice A2 V.length c2)) g A o.length c υ ∧ Off g h w (w1.setCell ⟨h, 3, none⟩ (.slice A2 V.length c2))) :=
    hid ⟨⟨⟨none, 0, A2, c2, none, 0, none, 0⟩, BoxL.one hs1 (k := 3) rfl _, RdF.nil _ _, hr1.off hw (by omega) (by omega), RdF.nil _ _, RdF.nil _ _⟩, BoxL.other hb1 (p := ⟨h, 3, none⟩) (by simp; omega) _, o1.left.trans hw⟩
  clear hr1 hb1 o1 hs1 hw
  go_wp2_with fail
  go_end0
  exact ⟨rfl, HQ.out⟩
theorem fr_sign {g h c : Nat} {A : Option Addr} (o : List Int) (ho : o.length ≤ c) (hc : c ≤ 9223372036854775807) (hol : o.length ≤ 70000) (uo : U8s o) (σ : Rs) (ha : σ.1 ≤ o.length) (dim : Int) (hd : I64 dim) (w : World) (hb : RdB w g A o.length c σ) (ra : Rd (Value.int .u8) w g A o) (hs : BoxL w h (cellsT (bareS 3 dim) bareP)) (hgh : g < h) (hh : h < w.heap.size) :
    Calls Tryz.prog 72 #[.pointer (some ⟨g, 0, none⟩), .pointer (some ⟨h, 0, none⟩)] w (VecOut g h A o.length c w.heap.size (sgn2 o dim σ) w) := by
  have CN := hid (fun W (hB : RdB W g A o.length c σ) (hR : Rd (Value.int .u8) W g A o) hz => fr_number o ho hc hol uo σ ha W hB hR hz)
  have hle : (num2 o σ).2.1 ≤ o.length := pas_le ha (fun he => (get_fwd uo he).2)
  have CS := hid (fun W hB hR hz => fr_signs (g := g) (A := A) o ho hc hol uo (num2 o σ).2 hle dim hd W hB hR hz)
  unfold sgn2
  obtain ⟨N, υ, hN⟩ : ∃ V υ, num2 o σ = (V, υ) := ⟨_, _, rfl⟩
  rw [hN] at CN CS ⊢
  simp only at CN CS ⊢
  obtain ⟨G, τ, hG⟩ : ∃ G τ, sgs2 o υ dim = (G, τ) := ⟨_, _, rfl⟩
  rw [hG] at CS ⊢
  simp only at CS ⊢
  obtain ⟨⟨k0, k1, k2, k3, k4, k5, k6, k7⟩, f0, f1, f2, f3, f4, f5, f6, f7⟩ := box_T hs
  have HS := hid hs
  have HB := hid hb
  have HA := hid ra
  have kd : w.cell? ⟨h, 1, none⟩ = some (.int .i64 dim) := k1
  clear hN hG hb ra hs k0 k1 k2 k3 k4 k5 k6 k7 f0 f1 f2 f3 f4 f5 f6 f7 ha hle
  go_enter Tryz.func72, Tryz.ntmps72
  go_wp2_with fail
  first | (go_region_law (first | (go_simp; go_at_call 45; refine (CN.out _ (by exact HB.out) (by exact HA.out) (by simp; omega)).mono ?_; rintro _ w1 ⟨rfl, hb1, o1⟩; have q1 : Off g g w w1 := (show Off g g w w.drew from Off.of ((Below.refl _ _).drew)).trans o1; have HS1 := hid (q1.box HS.out (by simp [cellsT]) (by omega) (by omega)); have kd1 : w1.cell? ⟨h, 1, none⟩ = some (.int .i64 dim) := (HS1.out 1 _ rfl).1; have HB1 := hid hb1; clear hb1) | (go_simp; go_at_call 98; refine (CS.out _ (by exact HB1.out) (by exact HA.out.below (q1.below (Nat.le_refl _) (Nat.le_refl _) (by omega))) (by exact Nat.lt_of_lt_of_le (by omega) q1.size)).mono ?_; rintro _ w2 ⟨A2, c2, rfl, hr2, hb2, o2⟩; have q2 := q1.trans o2; have HS2 := hid (o2.box HS1.out (by simp [cellsT]) (by omega) (by omega)); have kc : w2.cell? ⟨h, 4, none⟩ = some (.int .i64 0) := (HS2.out 4 _ rfl).1; have ke : w2.cell? ⟨h, 7, none⟩ = some (.slice none 0 0) := (HS2.out 7 _ rfl).1; have kf : w2.frozen? ⟨h, 4, none⟩ = false := (HS2.out 4 _ rfl).2; have kg : w2.frozen? ⟨h, 7, none⟩ = false := (HS2.out 7 _ rfl).2; have HB2 := hid hb2; have HR2 := hid (hr2.less q1.size); clear hb2 hr2))) | fail
  all_goals
    have hw := (Off.setR (g := g) (h := h) (w := w2) 4 (.int .i64 N)).trans (Off.setR 7 (.slice A2 G.length c2))
    go_end0
    exact ⟨rfl, ⟨⟨none, 0, none, 0, none, 0, A2, c2⟩, (BoxL.one HS2.out (k := 4) rfl _).one (k := 7) rfl _, RdF.nil _ _, RdF.nil _ _, RdF.nil _ _, HR2.out.off hw (by omega) (by omega)⟩, BoxL.other (BoxL.other HB2.out (p := ⟨h, 4, none⟩) (by simp; omega) _) (p := ⟨h, 7, none⟩) (by simp; omega) _, q2.left.trans hw⟩
theorem fr_level {g h c : Nat} {A : Option Addr} (o : List Int) (ho : o.length ≤ c) (hc : c ≤ 9223372036854775807) (hol : o.length ≤ 70000) (uo : U8s o) (σ : Rs) (ha : σ.1 ≤ o.length) (dim : Int) (hd : I64 dim) (w : World) (hb : RdB w g A o.length c σ) (ra : Rd (Value.int .u8) w g A o) (hs : BoxL w h (cellsT (bareS 2 dim) bareP)) (hgh : g < h) (hh : h < w.heap.size) :
    Calls Tryz.prog 71 #[.pointer (some ⟨g, 0, none⟩), .pointer (some ⟨h, 0, none⟩)] w (VecOut g h A o.length c w.heap.size (lev2 o dim σ) w) := by
  have CN := hid (fr_number o ho hc hol uo σ ha w hb ra (by omega))
  have hle : (num2 o σ).2.1 ≤ o.length := pas_le ha (fun he => (get_fwd uo he).2)
  have CO := hid (fun W hB hR => fr_one (g := g) (A := A) o ho hc hol uo (num2 o σ).2 hle W hB hR)
  have hle2 : (one2 o (num2 o σ).2).2.1 ≤ o.length := tak_le hle
  have hxI : I64 (one2 o (num2 o σ).2).1 := one_i64 uo _
  have CQ := hid (fun W hB hR hz => fr_planes (g := g) (A := A) o ho hc hol uo (one2 o (num2 o σ).2).2 hle2 (one2 o (num2 o σ).2).1 dim hxI hd W hB hR hz)
  have hle3 : (pln2 o (one2 o (num2 o σ).2).2 (one2 o (num2 o σ).2).1 dim).2.1 ≤ o.length := pas_le (tak_le hle2) (fun _ => by have := tak_le (m := bysV (one2 o (num2 o σ).2).1 dim) hle2; omega)
  have CS := hid (fun W hB hR hz => fr_signs (g := g) (A := A) o ho hc hol uo (pln2 o (one2 o (num2 o σ).2).2 (one2 o (num2 o σ).2).1 dim).2 hle3 dim hd W hB hR hz)
  unfold lev2
  obtain ⟨N, υ, hN⟩ : ∃ V υ, num2 o σ = (V, υ) := ⟨_, _, rfl⟩
  rw [hN] at CN CO CQ CS ⊢
  simp only at CN CO CQ CS ⊢
  obtain ⟨X, τ, hX⟩ : ∃ X τ, one2 o υ = (X, τ) := ⟨_, _, rfl⟩
  rw [hX] at CO CQ CS ⊢
  simp only at CO CQ CS ⊢
  obtain ⟨L, κ, hL⟩ : ∃ L κ, pln2 o τ X dim = (L, κ) := ⟨_, _, rfl⟩
  rw [hL] at CQ CS ⊢
  simp only at CQ CS ⊢
  obtain ⟨G, ρ, hG⟩ : ∃ G ρ, sgs2 o κ dim = (G, ρ) := ⟨_, _, rfl⟩
  rw [hG] at CS ⊢
  simp only at CS ⊢
  have HS := hid hs
  have HA := hid ra
  clear hN hX hL hG hb ra hs ha hle hle2 hle3 hxI
  go_enter Tryz.func71, Tryz.ntmps71
  go_wp2_with fail
  refine CN.out.mono ?_
  rintro _ w1 ⟨rfl, hb1, q1⟩
  have HB1 := hid hb1
  have HS1 := hid (q1.box HS.out (by simp [cellsT]) (by omega) (by omega))
  have HA1 := hid (HA.out.below (q1.below (Nat.le_refl _) (Nat.le_refl _) (by omega)))
  clear hb1 CN
  go_wp2_with fail
  refine (CO.out _ HB1.out HA1.out).mono ?_
  rintro _ w2 ⟨rfl, hb2, o2⟩
  have q2 := q1.trans o2
  have hz2 := q2.size
  have HB2 := hid hb2
  have HS2 := hid (o2.box HS1.out (by simp [cellsT]) (by omega) (by omega))
  have HA2 := hid (HA1.out.below (o2.below (Nat.le_refl _) (Nat.le_refl _) (by have := q1.size; omega)))
  clear hb2 HB1 HS1 HA1 CO
  have HH : Hid (BoxL ((w2.setCell ⟨h, 4, none⟩ (.int .i64 N)).setCell ⟨h, 5, none⟩ (.int .i64 X)) h (cellsT ⟨2, dim, [], [], N, X, [], []⟩ bareP) ∧ RdB ((w2.setCell ⟨h, 4, none⟩ (.int .i64 N)).setCell ⟨h, 5, none⟩ (.int .i64 X)) g A o.length c τ ∧ Off g h w ((w2.setCell ⟨h, 4, none⟩ (.int .i64 N)).setCell ⟨h, 5, none⟩ (.int .i64 X)) ∧ Rd (Value.int .u8) ((w2.setCell ⟨h, 4, none⟩ (.int .i64 N)).setCell ⟨h, 5, none⟩ (.int .i64 X)) g A o) :=
    hid ⟨(BoxL.one HS2.out (k := 4) rfl _).one (k := 5) rfl _, BoxL.other (BoxL.other HB2.out (p := ⟨h, 4, none⟩) (by simp; omega) _) (p := ⟨h, 5, none⟩) (by simp; omega) _, (q2.left.trans (Off.setR 4 _)).trans (Off.setR 5 _), (HA2.out.below (((Off.setR (g := g) (h := h) 4 _).trans (Off.setR 5 _)).below (Nat.le_refl _) (by omega) (by omega)))⟩
  obtain ⟨⟨k0, k1, k2, k3, k4, k5, k6, k7⟩, f0, f1, f2, f3, f4, f5, f6, f7⟩ := box_T HS2.out
  go_wp2_with fail
  clear k0 k1 k2 k3 k4 k5 k6 k7 f0 f1 f2 f3 f4 f5 f6 f7 HB2 HS2 HA2 HA HS q2 q1 o2 hz2
  generalize ((w2.setCell ⟨h, 4, none⟩ (.int .i64 N)).setCell ⟨h, 5, none⟩ (.int .i64 X)) = w3 at HH ⊢
  obtain ⟨hs3, hb3, q3, ha3⟩ := HH.out
  have HS3 := hid hs3
  have HB3 := hid hb3
  have HA3 := hid ha3
  have hz3 := q3.size
  have kd : w3.cell? ⟨h, 1, none⟩ = some (.int .i64 dim) := (hs3 1 _ rfl).1
  have kx : w3.cell? ⟨h, 5, none⟩ = some (.int .i64 X) := (hs3 5 _ rfl).1
  clear hs3 hb3 ha3 HH
  first | (go_region_law (first | (go_simp; go_at_call 97; refine (CQ.out _ (by exact HB3.out) (by exact HA3.out) (by simp; omega)).mono ?_; rintro _ w4 ⟨A4, c4, rfl, hr4, hb4, o4⟩; have q4 : Off g g w3 w4 := (show Off g g w3 w3.drew from Off.of ((Below.refl _ _).drew)).trans o4; have HS4 := hid (q4.box HS3.out (by simp [cellsT]) (by omega) (by omega)); have kd4 : w4.cell? ⟨h, 1, none⟩ = some (.int .i64 dim) := (HS4.out 1 _ rfl).1; have HB4 := hid hb4; have HR4 := hid hr4; clear hb4 hr4) | (go_simp; go_at_call 98; refine (CS.out _ (by exact HB4.out) (by exact HA3.out.below (q4.below (Nat.le_refl _) (Nat.le_refl _) (by omega))) (by exact Nat.lt_of_lt_of_le (by omega) q4.size)).mono ?_; rintro _ w5 ⟨A5, c5, rfl, hr5, hb5, o5⟩; have q5 := q4.trans o5; have HS5 := hid (o5.box HS4.out (by simp [cellsT]) (by omega) (by omega)); have kc : w5.cell? ⟨h, 6, none⟩ = some (.slice none 0 0) := (HS5.out 6 _ rfl).1; have ke : w5.cell? ⟨h, 7, none⟩ = some (.slice none 0 0) := (HS5.out 7 _ rfl).1; have kf : w5.frozen? ⟨h, 6, none⟩ = false := (HS5.out 6 _ rfl).2; have kg : w5.frozen? ⟨h, 7, none⟩ = false := (HS5.out 7 _ rfl).2; have HB5 := hid hb5; have HR5 := hid (hr5.less (Nat.le_trans hz3 q4.size)); have HR45 := hid ((HR4.out.off o5 (by have := q4.size; simp; omega) (by have := q4.size; simp; omega)).less (show w.heap.size ≤ _ by simp; omega)); clear hb5 hr5))) | fail
  all_goals
    have hw := (Off.setR (g := g) (h := h) (w := w5) 6 (.slice A4 L.length c4)).trans (Off.setR 7 (.slice A5 G.length c5))
    go_end0
    exact ⟨rfl, ⟨⟨none, 0, none, 0, A4, c4, A5, c5⟩, (BoxL.one HS5.out (k := 6) rfl _).one (k := 7) rfl _, RdF.nil _ _, RdF.nil _ _, HR45.out.off hw (by omega) (by omega), HR5.out.off hw (by omega) (by omega)⟩, BoxL.other (BoxL.other HB5.out (p := ⟨h, 6, none⟩) (by simp; omega) _) (p := ⟨h, 7, none⟩) (by simp; omega) _, (q3.trans q5.left).trans hw⟩
end Go.Proofs.YtjkhdfncahhnoaaGreat
/- The program's reader: places and numbers; a vector; a frame. -/
namespace Go.Proofs.YtjkhdfncahhnoaaGreat
open Go.RowKit
set_option maxHeartbeats 1000000
set_option maxRecDepth 100000
set_option linter.unusedVariables false
theorem gix_fwd {dim : Int} {o : List Int} (uo : U8s o) {a : Nat} (ha : a ≤ o.length) (h : (gixR dim o a).2.2 = 0) : 0 ≤ (gixR dim o a).2.1 ∧ (gixR dim o a).2.1 ≤ o.length := by
  obtain ⟨l, y, e, hr⟩ : ∃ l y e, gixR dim o a = (l, y, e) := ⟨_, _, _, rfl⟩
  rw [hr] at h ⊢
  simp only at h
  subst h
  obtain ⟨_, j, rfl, hj, _⟩ := gix_backK uo hr ha
  simp only
  omega
theorem fr_top {g h c : Nat} {A : Option Addr} (o : List Int) (ho : o.length ≤ c) (hc : c ≤ 9223372036854775807) (hol : o.length ≤ 70000) (uo : U8s o) (σ : Rs) (ha : σ.1 ≤ o.length) (dim : Int) (hd : I64 dim) (w : World) (hb : RdB w g A o.length c σ) (ra : Rd (Value.int .u8) w g A o) (hs : BoxL w h (cellsT (bareS 1 dim) bareP)) (hgh : g < h) (hh : h < w.heap.size) :
    Calls Tryz.prog 70 #[.pointer (some ⟨g, 0, none⟩), .pointer (some ⟨h, 0, none⟩)] w (VecOut g h A o.length c w.heap.size (top2 o dim σ) w) := by
  have hle : (gix2 o σ dim).2.1 ≤ o.length := pas_le ha (fun he => (gix_fwd uo ha he).2)
  have hlen : (gix2 o σ dim).1.length ≤ 4096 := gix_len _ _ _
  have CN := hid (fun W hB hR hz => fr_numbers (g := g) (A := A) o ho hc hol uo (gix2 o σ dim).2 hle ((gix2 o σ dim).1.length : Int) (by unfold I64; omega) W hB hR hz)
  obtain ⟨c0, c1, c2, _, _, _⟩ := hb.three
  have kd : w.cell? ⟨h, 1, none⟩ = some (.int .i64 dim) := (hs 1 _ rfl).1
  have HB := hid hb
  have HS := hid hs
  have HA := hid ra
  obtain ⟨a, z⟩ := σ
  simp only at ha c1 c2
  have hfw := gix_fwd (dim := dim) uo ha
  have CG0 := fun W hW => ix_Get (A := A) (c := c) dim o hd ho hc uo a (by unfold I64; omega) W hW
  unfold top2
  unfold gix2 at CN hlen ⊢
  simp only at CN hlen ⊢
  obtain ⟨L, y, E, hr⟩ : ∃ l y e, gixR dim o a = (l, y, e) := ⟨_, _, _, rfl⟩
  rw [hr] at CN CG0 hfw hlen ⊢
  simp only at CN hfw hlen ⊢
  have CG : Hid (∀ W, Rd (Value.int .u8) W W.heap.size A o → Calls Tryz.prog 96 #[.int .i64 dim, .slice A o.length c, .int .i64 (a : Int)] W fun e w' => ∃ A2 d2, e = .returned (.tuple #[.slice A2 L.length d2, .int .i64 y, .int .i64 E]) ∧ w'.ownsRow W.heap.size 3 1 (.slice A2 L.length d2) L.length (L.map (Value.int .i64)) ∧ Below W.heap.size W w') := hid CG0
  have CP := hid (fun W hW => fr_pass (g := g) (n := o.length) (c := c) (A := A) (a, z) y E (fun h => (hfw h).1) W hW)
  obtain ⟨υ, hυ⟩ : ∃ υ, pas (a, z) y E = υ := ⟨_, rfl⟩
  rw [hυ] at CP CN ⊢
  obtain ⟨V, τ, hV⟩ : ∃ V τ, nms2 o υ (L.length : Int) = (V, τ) := ⟨_, _, rfl⟩
  rw [hV] at CN ⊢
  simp only at CN ⊢
  have lg : g < w.heap.size := by omega
  clear hV hυ hr CG0 hfw hlen hle hb ra hs ha
  go_enter Tryz.func70, Tryz.ntmps70
  go_wp2_with fail
  first | (go_region_held3 (fun w' => w'.cell? ⟨g, 0, none⟩ = some (.slice A o.length c) ∧ w'.cell? ⟨g, 1, none⟩ = some (.int .i64 (a : Int)) ∧ w'.cell? ⟨h, 1, none⟩ = some (.int .i64 dim) ∧ Below w.heap.size w w') (first | exact ⟨c0, c1, kd, (Below.refl _ _).drew⟩ | (have hk := below_step ((Below.refl _ _).drew) hb1 (Nat.le_refl _); exact ⟨(hk.cell lg).trans c0, (hk.cell lg).trans c1, (hk.cell hh).trans kd, hk⟩) | assumption) (first | (go_at_call 96; refine (CG.out _ (by exact (HA.out.more (Nat.le_of_lt lg)))).mono ?_; rintro _ w1 ⟨A1, d1, rfl, ho1, hb1⟩) | fail)) | fail
  all_goals
    have HO1 := hid (RdF.of_own ho1)
    have HB1 := hid ((show RdB w.drew g A o.length c (a, z) from HB.out).below hb1 lg)
    have q1 : Off g g w w1 := (show Off g g w w.drew from Off.of ((Below.refl _ _).drew)).trans (Off.of hb1)
    have HS1 := hid (q1.box HS.out (by simp [cellsT]) (by omega) (by omega))
    clear ho1
    go_wp2_with fail
    refine (CP.out _ HB1.out).mono ?_
    rintro _ w2 ⟨rfl, hb2, o2⟩
    have HO2 := hid (HO1.out.off o2 lg lg)
    have HB2 := hid hb2
    have HS2 := hid (o2.box HS1.out (by simp [cellsT]) (by omega) (by omega))
    have q2 := q1.trans o2
    have hq2 := q2.size
    have HA2 := hid (HA.out.below (q2.below (Nat.le_refl _) (Nat.le_refl _) (by omega)))
    clear hb2 HO1 HB1 HS1 hb1 CP CG c0 c1 c2 kd
    go_wp2_with fail
    refine (CN.out _ HB2.out HA2.out (by omega)).mono ?_
    rintro _ w3 ⟨A3, c3, rfl, hr3, hb3, o3⟩
    have HS3 := hid (o3.box HS2.out (by simp [cellsT]) (by omega) (by omega))
    have HB3 := hid hb3
    have hw := (Off.setR (g := g) (h := h) (w := w3) 2 (.slice A1 L.length d1)).trans (Off.setR 3 (.slice A3 V.length c3))
    have q3 := (q2.trans o3).left.trans hw
    have HR := hid ((hr3.less hq2).off hw (by omega) (by omega))
    have HL := hid (((HO2.out.off o3 lg lg).off hw (by exact lg) (by exact hh)))
    obtain ⟨⟨k0, k1, k2, k3, k4, k5, k6, k7⟩, f0, f1, f2, f3, f4, f5, f6, f7⟩ := box_T HS3.out
    clear hb3 hr3 HO2 HB2 HS2 q2 o3 hw
    go_wp2_with fail
    go_end0
    exact ⟨rfl, ⟨⟨A1, d1, A3, c3, none, 0, none, 0⟩, (BoxL.one HS3.out (k := 2) rfl _).one (k := 3) rfl _, HL.out, HR.out, RdF.nil _ _, RdF.nil _ _⟩, BoxL.other (BoxL.other HB3.out (p := ⟨h, 2, none⟩) (by simp; omega) _) (p := ⟨h, 3, none⟩) (by simp; omega) _, q3⟩
end Go.Proofs.YtjkhdfncahhnoaaGreat
/- What the laws ask of the program's frame: seven contracts, as one bundle; to be shown over the landed code. -/
namespace Go.Proofs.YtjkhdfncahhnoaaGreat
open Go.RowKit
set_option maxRecDepth 100000
set_option linter.unusedVariables false
/-- A frame told, in memory that reads so, and an error. -/
def OwnFr (r : FrameV × Int) (w : World) (e : Ending) (w' : World) : Prop :=
  ∃ p, e = .returned (.tuple #[encF r.1 p, .int .i64 r.2]) ∧ RdS w' w'.heap.size r.1.S p ∧ Below w.heap.size w w'
end Go.Proofs.YtjkhdfncahhnoaaGreat
/- The program's reader reads what the document's does: plain words. -/
namespace Go.Proofs.YtjkhdfncahhnoaaGreat
set_option maxRecDepth 100000
set_option linter.unusedVariables false
theorem one_le {o : List Int} {σ : Rs} (h : σ.1 ≤ o.length) : (one2 o σ).2.1 ≤ o.length := tak_le h
theorem num_le {o : List Int} (uo : U8s o) {σ : Rs} (h : σ.1 ≤ o.length) : (num2 o σ).2.1 ≤ o.length := pas_le h (fun he => (get_fwd uo he).2)
theorem gix_le {o : List Int} (uo : U8s o) {σ : Rs} {dim : Int} (h : σ.1 ≤ o.length) : (gix2 o σ dim).2.1 ≤ o.length := pas_le h (fun he => (gix_fwd uo h he).2)
theorem pln_le {o : List Int} {σ : Rs} {wd m : Int} (h : σ.1 ≤ o.length) : (pln2 o σ wd m).2.1 ≤ o.length := pas_le (tak_le h) (fun _ => by have := tak_le (m := bysV wd m) h; omega)
theorem tail0 (dim sc wd : Int) (L V E : List Int) (G : List Bool) : tailL ⟨0, dim, L, V, sc, wd, E, G⟩ = sgnd V := by simp [tailL]
theorem tail1 (dim sc wd : Int) (L V E : List Int) (G : List Bool) : tailL ⟨1, dim, L, V, sc, wd, E, G⟩ = pixV dim L ++ sgnd V := by simp [tailL]
theorem tail2 (dim sc wd : Int) (L V E : List Int) (G : List Bool) : tailL ⟨2, dim, L, V, sc, wd, E, G⟩ = lebI sc ++ ((wd :: wevV wd E) ++ sgnV G) := by simp [tailL]
theorem tail3 (dim sc wd : Int) (L V E : List Int) (G : List Bool) : tailL ⟨3, dim, L, V, sc, wd, E, G⟩ = lebI sc ++ ([] ++ sgnV G) := by simp [tailL]
theorem vec_back {o : List Int} (uo : U8s o) {a a' : Nat} {z : Bool} {S : SentV} (ha : a ≤ o.length) (h : vec2 o (a, z) = (S, (a', false))) (hm : mayP S) : z = false ∧ a' ≤ o.length ∧ wfS S ∧ o.drop a = bodyL S ++ o.drop a' := by
  unfold vec2 at h
  obtain ⟨X, ⟨u1, u2⟩, hX⟩ : ∃ X u, one2 o (a, z) = (X, u) := ⟨_, _, rfl⟩
  have hu : u1 ≤ o.length := by have := one_le (σ := (a, z)) ha; rw [hX] at this; exact this
  have hXI : I64 X := by have := one_i64 uo (a, z); rw [hX] at this; exact this
  rw [hX] at h
  simp only at h
  obtain ⟨D, ⟨t1, t2⟩, hD⟩ : ∃ X u, num2 o (u1, u2) = (X, u) := ⟨_, _, rfl⟩
  have ht : t1 ≤ o.length := by have := num_le uo (σ := (u1, u2)) hu; rw [hD] at this; exact this
  rw [hD] at h
  simp only at h
  have key : t2 = false → 1 ≤ D → D ≤ 4096 → ∀ tail, o.drop t1 = tail ++ o.drop a' → z = false ∧ o.drop a = X :: (lebI D ++ tail) ++ o.drop a' := by
    intro e1 d1 d4 tail e
    subst e1
    obtain ⟨n1, n2, n, nu, nv, ne⟩ := num2_back uo hu hD
    subst n1
    have hDn : D = n := by
      have := w64_pos nu (by omega)
      omega
    obtain ⟨m1, m2, m3⟩ := one2_back ha hX
    refine ⟨m1, ?_⟩
    rw [m3, ne, e, hDn]
    simp
  have nlI : ∀ x ∈ ([] : List Int), I64 x := by intro x hx; simp at hx
  have nlU : U64s [] := by intro x hx; simp at hx
  have h0I : I64 0 := by decide
  obtain ⟨d1, d4, hc⟩ := hm
  unfold rst2 at h
  split at h
  · rename_i e
    subst e
    unfold dns2 at h
    obtain ⟨V, ⟨r1, r2⟩, hV⟩ : ∃ X u, nms2 o (t1, t2) D = (X, u) := ⟨_, _, rfl⟩
    rw [hV] at h
    simp only [Prod.mk.injEq] at h
    obtain ⟨rfl, rfl, rfl⟩ := h
    simp only at d1 d4
    obtain ⟨z1, z2, z3, z4, z5⟩ := nms2_back uo ht hV
    obtain ⟨y1, y2⟩ := key z1 d1 d4 _ z5
    refine ⟨y1, z2, ⟨h0I, by show I64 D; unfold I64; omega, nlI, z4, h0I, h0I, nlU⟩, ?_⟩
    rw [y2]
    unfold bodyL
    rw [tail0]
  · rename_i n0
    split at h
    · rename_i e
      subst e
      unfold top2 at h
      obtain ⟨L, ⟨g1, g2⟩, hL⟩ : ∃ X u, gix2 o (t1, t2) D = (X, u) := ⟨_, _, rfl⟩
      have hg : g1 ≤ o.length := by have := gix_le uo (σ := (t1, t2)) (dim := D) ht; rw [hL] at this; exact this
      rw [hL] at h
      simp only at h
      obtain ⟨V, ⟨r1, r2⟩, hV⟩ : ∃ X u, nms2 o (g1, g2) (L.length : Int) = (X, u) := ⟨_, _, rfl⟩
      rw [hV] at h
      simp only [Prod.mk.injEq] at h
      obtain ⟨rfl, rfl, rfl⟩ := h
      simp only at d1 d4
      obtain ⟨z1, z2, z3, z4, z5⟩ := nms2_back uo hg hV
      subst z1
      obtain ⟨x1, x2, x3, x4⟩ := gix2_back uo ht hL
      obtain ⟨y1, y2⟩ := key x1 d1 d4 (pixV D L ++ sgnd V) (by rw [x4, z5]; simp)
      have hp := (chk_ok.1 x3).2.2.2
      refine ⟨y1, z2, ⟨show I64 1 from by decide, by show I64 D; unfold I64; omega, fun x hx => ?_, z4, h0I, h0I, nlU⟩, ?_⟩
      · have := hp x hx; unfold I64; omega
      · rw [y2]
        unfold bodyL
        rw [tail1]
    · rename_i n1
      split at h
      · rename_i e
        subst e
        unfold lev2 at h
        obtain ⟨N, ⟨g1, g2⟩, hN⟩ : ∃ X u, num2 o (t1, t2) = (X, u) := ⟨_, _, rfl⟩
        have hg : g1 ≤ o.length := by have := num_le uo (σ := (t1, t2)) ht; rw [hN] at this; exact this
        rw [hN] at h
        simp only at h
        obtain ⟨Wd, ⟨k1, k2⟩, hW⟩ : ∃ X u, one2 o (g1, g2) = (X, u) := ⟨_, _, rfl⟩
        have hk : k1 ≤ o.length := by have := one_le (σ := (g1, g2)) hg; rw [hW] at this; exact this
        rw [hW] at h
        simp only at h
        obtain ⟨E, ⟨l1, l2⟩, hE⟩ : ∃ X u, pln2 o (k1, k2) Wd D = (X, u) := ⟨_, _, rfl⟩
        have hl : l1 ≤ o.length := by have := pln_le (σ := (k1, k2)) (wd := Wd) (m := D) hk; rw [hE] at this; exact this
        rw [hE] at h
        simp only at h
        obtain ⟨G, ⟨r1, r2⟩, hG⟩ : ∃ X u, sgs2 o (l1, l2) D = (X, u) := ⟨_, _, rfl⟩
        rw [hG] at h
        simp only [Prod.mk.injEq] at h
        obtain ⟨rfl, rfl, rfl⟩ := h
        simp only at d1 d4 hc
        have hsc : 0 ≤ N := by
          rcases hc with h | h | h | h
          · exact absurd h.1 (by decide)
          · exact absurd h.1 (by decide)
          · exact h.2.2.2.2.2.2.2.1
          · exact absurd h.1 (by decide)
        have hwd : 1 ≤ Wd ∧ Wd ≤ 8 := by
          rcases hc with h | h | h | h
          · exact absurd h.1 (by decide)
          · exact absurd h.1 (by decide)
          · exact ⟨h.2.1, h.2.2.1⟩
          · exact absurd h.1 (by decide)
        obtain ⟨z1, z2, z3, z4⟩ := sgs2_back uo hl hG
        subst z1
        obtain ⟨x1, x2, x3, x4, x5⟩ := pln2_back uo hk hE
        subst x1
        obtain ⟨v1, v2, v3⟩ := one2_back hg hW
        subst v1
        obtain ⟨n1, n2, n, nu, nv, ne⟩ := num2_back uo ht hN
        have hNn : N = n := by
          have := w64_pos nu (by omega)
          omega
        obtain ⟨y1, y2⟩ := key n1 d1 d4 (lebI N ++ ((Wd :: wevV Wd E) ++ sgnV G)) (by rw [ne, v3, x5, z4, hNn]; simp)
        refine ⟨y1, z2, ⟨show I64 2 from by decide, by show I64 D; unfold I64; omega, nlI, nlI, ?_, by show I64 Wd; unfold I64; omega, x4⟩, ?_⟩
        · show I64 N
          rw [nv]; exact w64_i64 nu
        · rw [y2]
          unfold bodyL
          rw [tail2]
      · rename_i n2
        split at h
        · rename_i e
          subst e
          unfold sgn2 at h
          obtain ⟨N, ⟨g1, g2⟩, hN⟩ : ∃ X u, num2 o (t1, t2) = (X, u) := ⟨_, _, rfl⟩
          have hg : g1 ≤ o.length := by have := num_le uo (σ := (t1, t2)) ht; rw [hN] at this; exact this
          rw [hN] at h
          simp only at h
          obtain ⟨G, ⟨r1, r2⟩, hG⟩ : ∃ X u, sgs2 o (g1, g2) D = (X, u) := ⟨_, _, rfl⟩
          rw [hG] at h
          simp only [Prod.mk.injEq] at h
          obtain ⟨rfl, rfl, rfl⟩ := h
          simp only at d1 d4 hc
          have hsc : 0 ≤ N := by
            rcases hc with h | h | h | h
            · exact absurd h.1 (by decide)
            · exact absurd h.1 (by decide)
            · exact absurd h.1 (by decide)
            · exact h.2.2.2.2.2.1
          obtain ⟨z1, z2, z3, z4⟩ := sgs2_back uo hg hG
          subst z1
          obtain ⟨n1, n2, n, nu, nv, ne⟩ := num2_back uo ht hN
          have hNn : N = n := by
            have := w64_pos nu (by omega)
            omega
          obtain ⟨y1, y2⟩ := key n1 d1 d4 (lebI N ++ ([] ++ sgnV G)) (by rw [ne, z4, hNn]; simp)
          refine ⟨y1, z2, ⟨show I64 3 from by decide, by show I64 D; unfold I64; omega, nlI, nlI, ?_, h0I, nlU⟩, ?_⟩
          · show I64 N
            rw [nv]; exact w64_i64 nu
          · rw [y2]
            unfold bodyL
            rw [tail3]
        · rename_i n3
          simp only [Prod.mk.injEq] at h
          obtain ⟨rfl, _, _⟩ := h
          simp only at hc
          rcases hc with h | h | h | h
          · exact absurd h.1 n0
          · exact absurd h.1 n1
          · exact absurd h.1 n2
          · exact absurd h.1 n3
theorem frm_back {o : List Int} (uo : U8s o) {f : FrameV} {a : Nat} (h : frm2 o = (f, (a, false))) (ha : ¬ a < o.length) (hc : chkF f = 0) : wfF f ∧ textL f = o := by
  obtain ⟨p1, p2, p3, p4, p5⟩ := chkF_ok.1 hc
  unfold frm2 at h
  obtain ⟨M, ⟨m1, m2⟩, hM⟩ : ∃ X u, one2 o (0, false) = (X, u) := ⟨_, _, rfl⟩
  have hm : m1 ≤ o.length := by have := one_le (o := o) (σ := (0, false)) (Nat.zero_le _); rw [hM] at this; exact this
  rw [hM] at h
  simp only at h
  unfold hed2 at h
  obtain ⟨K, ⟨k1, k2⟩, hK⟩ : ∃ X u, one2 o (m1, m2 || (M != 1)) = (X, u) := ⟨_, _, rfl⟩
  have hk : k1 ≤ o.length := by have := one_le (o := o) (σ := (m1, m2 || (M != 1))) hm; rw [hK] at this; exact this
  have hKI : I64 K := by have := one_i64 uo (m1, m2 || (M != 1)); rw [hK] at this; exact this
  rw [hK] at h
  simp only at h
  obtain ⟨F, ⟨f1, f2⟩, hF⟩ : ∃ X u, num2 o (k1, k2) = (X, u) := ⟨_, _, rfl⟩
  have hf : f1 ≤ o.length := by have := num_le uo (σ := (k1, k2)) hk; rw [hF] at this; exact this
  rw [hF] at h
  simp only at h
  obtain ⟨T, ⟨t1, t2⟩, hT⟩ : ∃ X u, num2 o (f1, f2) = (X, u) := ⟨_, _, rfl⟩
  have ht : t1 ≤ o.length := by have := num_le uo (σ := (f1, f2)) hf; rw [hT] at this; exact this
  rw [hT] at h
  simp only at h
  have key : t2 = false → 0 ≤ F → 0 ≤ T → I64 F ∧ I64 T ∧ ∀ tail, o.drop t1 = tail → o = 1 :: K :: (lebI F ++ (lebI T ++ tail)) := by
    intro e1 hF0 hT0
    subst e1
    obtain ⟨a1, a2, n, nu, nv, ne⟩ := num2_back uo hf hT
    subst a1
    obtain ⟨b1, b2, q, qu, qv, qe⟩ := num2_back uo hk hF
    subst b1
    obtain ⟨c1, c2, c3⟩ := one2_back hm hK
    rw [Bool.or_eq_false_iff] at c1
    obtain ⟨d1, d2⟩ := c1
    subst d1
    obtain ⟨_, _, e3⟩ := one2_back (Nat.zero_le _) hM
    have hM1 : M = 1 := by simpa using d2
    have hTn : T = n := by have := w64_pos nu (by omega); omega
    have hFn : F = q := by have := w64_pos qu (by omega); omega
    refine ⟨by rw [qv]; exact w64_i64 qu, by rw [nv]; exact w64_i64 nu, fun tail e => ?_⟩
    rw [List.drop_zero] at e3
    rw [e3, c3, qe, ne, e, hM1, hTn, hFn]
  unfold bdy2 at h
  split at h
  · rename_i e
    obtain ⟨S, ⟨r1, r2⟩, hS⟩ : ∃ X u, vec2 o (t1, t2) = (X, u) := ⟨_, _, rfl⟩
    rw [hS] at h
    simp only [Prod.mk.injEq] at h
    obtain ⟨rfl, rfl, rfl⟩ := h
    simp only at p1 p2 p3 p4 p5
    have hmay : mayP S := by
      rcases p5 with h | h
      · exact mayB_iff.1 h.2
      · omega
    obtain ⟨v1, v2, v3, v4⟩ := vec_back uo ht hS hmay
    obtain ⟨w1, w2, w3⟩ := key v1 p1 p3
    have hz : o.drop r1 = [] := List.drop_eq_nil_of_le (by omega)
    rw [hz, List.append_nil] at v4
    refine ⟨⟨hKI, w1, w2, v3⟩, ?_⟩
    have := w3 _ v4
    unfold textL
    rw [if_pos e]
    exact this.symm
  · rename_i e
    simp only [Prod.mk.injEq] at h
    obtain ⟨rfl, rfl, rfl⟩ := h
    simp only at p1 p2 p3 p4 p5
    obtain ⟨w1, w2, w3⟩ := key rfl p1 p3
    have hz : o.drop t1 = [] := List.drop_eq_nil_of_le (by omega)
    refine ⟨⟨hKI, w1, w2, wf_zeroS⟩, ?_⟩
    have := w3 _ hz
    unfold textL
    rw [if_neg e]
    exact this.symm
/-- What was written is read. -/
theorem cut_drop {o p r : List Int} {a : Nat} (h : o.drop a = p ++ r) (ha : a ≤ o.length) : o.drop (a + p.length) = r ∧ a + p.length ≤ o.length := by
  refine ⟨by rw [← List.drop_drop, h, List.drop_left], ?_⟩
  have := congrArg List.length h
  rw [List.length_drop, List.length_append] at this
  omega
theorem tak_putD {o p r : List Int} {a : Nat} {z : Bool} {m : Int} (h : o.drop a = p ++ r) (ha : a ≤ o.length) (hm : (p.length : Int) = m) : tak o (a, z) m = (p, (a + p.length, z)) := by
  obtain ⟨_, h2⟩ := cut_drop h ha
  unfold tak
  have hn : m.toNat = p.length := by omega
  rw [if_neg (by simp only; omega), hn]
  simp only [h, List.take_left]
theorem one_putD {o r : List Int} {a : Nat} {z : Bool} {x : Int} (h : o.drop a = x :: r) (ha : a ≤ o.length) : ∃ a', one2 o (a, z) = (x, (a', z)) ∧ a' ≤ o.length ∧ o.drop a' = r := by
  have h' : o.drop a = [x] ++ r := h
  obtain ⟨h1, h2⟩ := cut_drop h' ha
  refine ⟨a + 1, ?_, h2, h1⟩
  have ht := tak_putD (z := z) h' ha (m := 1) rfl
  unfold one2
  rw [ht]
  rfl
theorem num_putD {o r : List Int} {a : Nat} {z : Bool} {n : Int} (hu : U64 n) (hn : n ≤ 9223372036854775807) (h : o.drop a = lebI n ++ r) (ha : a ≤ o.length) : ∃ a', num2 o (a, z) = (n, (a', z)) ∧ a' ≤ o.length ∧ o.drop a' = r := by
  obtain ⟨h1, h2⟩ := cut_drop h ha
  have hg : gL (o.drop (a : Int).toNat) 0 0 = (n, ((lebI n).length : Int), 0) := by rw [Int.toNat_natCast, h, gL_code hu]
  obtain ⟨e1, e2, e3⟩ := get_out (b := o) (a := (a : Int)) (by omega) hg
  refine ⟨a + (lebI n).length, ?_, h2, h1⟩
  have e4 : getA o (a : Int) = (a : Int) + ((lebI n).length : Int) := by rw [e3, if_pos rfl]
  have e5 : w64 n = n := by unfold w64; rw [if_pos hn]
  have e6 : ((a : Int) + ((lebI n).length : Int)).toNat = a + (lebI n).length := by omega
  unfold num2 pas
  simp only [e1, e2, e4, e5, e6, if_true]
theorem nms_putD {o r V : List Int} {a : Nat} {z : Bool} (hV : ∀ x ∈ V, I64 x) (h : o.drop a = sgnd V ++ r) (ha : a ≤ o.length) : ∃ a', nms2 o (a, z) (V.length : Int) = (V, (a', z)) ∧ a' ≤ o.length ∧ o.drop a' = r := by
  obtain ⟨h1, h2⟩ := cut_drop h ha
  have hl : (o.take a).length = a := by rw [List.length_take]; omega
  have hp := mny_put (b := o) (behind := r) (V.map zigI) (o.take a) [] (zigs_u64 hV) (by
    show o = o.take a ++ (sgnd V ++ r)
    rw [← h, List.take_append_drop])
  rw [hl, List.length_map, List.nil_append] at hp
  refine ⟨a + (sgnd V).length, ?_, h2, h1⟩
  unfold nms2 mnyV
  simp only
  rw [if_neg (by omega), Int.toNat_natCast, hp]
  simp only
  unfold pas
  rw [if_pos rfl, Int.toNat_natCast, List.length_append, hl, List.map_map]
  have e : V.map (zagI ∘ zigI) = V := by
    refine (List.map_congr_left fun x hx => ?_).trans (List.map_id V)
    exact zag_zig x
  rw [e]
  rfl
theorem gix_putD {o r L : List Int} {a : Nat} {z : Bool} {dim : Int} (hc : chkE dim L = 0) (h : o.drop a = pixV dim L ++ r) (ha : a ≤ o.length) : ∃ a', gix2 o (a, z) dim = (L, (a', z)) ∧ a' ≤ o.length ∧ o.drop a' = r := by
  obtain ⟨h1, h2⟩ := cut_drop h ha
  have hl : (o.take a).length = a := by rw [List.length_take]; omega
  have hp := gix_put (b := o) (ahead := o.take a) (behind := r) hc (by rw [← h, List.take_append_drop])
  rw [hl] at hp
  refine ⟨a + (pixV dim L).length, ?_, h2, h1⟩
  unfold gix2
  simp only
  rw [hp]
  simp only
  unfold pas
  rw [if_pos rfl, Int.toNat_natCast, List.length_append, hl]
theorem sgs_putD {o r : List Int} {G : List Bool} {a : Nat} {z : Bool} {m : Int} (hm : (G.length : Int) = m) (h4 : m ≤ 4096) (h : o.drop a = sgnV G ++ r) (ha : a ≤ o.length) : ∃ a', sgs2 o (a, z) m = (G, (a', z)) ∧ a' ≤ o.length ∧ o.drop a' = r := by
  obtain ⟨h1, h2⟩ := cut_drop h ha
  have hl := sgnV_len (l := G) (by omega)
  have hr := read_sgn (l := G) (by omega)
  rw [hm] at hr
  have hb : bysV 1 m = ((sgnV G).length : Int) := by
    have := (bitE_ok hr.1).2.1
    exact this.symm
  refine ⟨a + (sgnV G).length, ?_, h2, h1⟩
  unfold sgs2
  rw [hb, tak_putD h ha rfl]
  simp only
  rw [hr.1, hr.2]
  unfold pas
  rw [if_pos rfl]
  simp
  omega
theorem pln_putD {o r E : List Int} {a : Nat} {z : Bool} {wd m : Int} (h1w : 1 ≤ wd) (h8 : wd ≤ 8) (hm : (E.length : Int) = m) (h4 : m ≤ 4096) (hf : fitsB wd E = true) (uE : U64s E) (h : o.drop a = wevV wd E ++ r) (ha : a ≤ o.length) : ∃ a', pln2 o (a, z) wd m = (E, (a', z)) ∧ a' ≤ o.length ∧ o.drop a' = r := by
  obtain ⟨h1, h2⟩ := cut_drop h ha
  have hb8 : bysE wd E.length = 0 := by unfold bysE; rw [if_neg (by omega), if_neg (by omega)]
  have hme : mayE wd E = 0 := by unfold mayE; rw [if_pos hb8, if_pos hf]
  have hu := uwv_wev hme uE
  rw [hm] at hu
  have hb : bysV wd m = ((wevV wd E).length : Int) := by
    have := (bitE_ok hu.1).2.1
    exact this.symm
  refine ⟨a + (wevV wd E).length, ?_, h2, h1⟩
  unfold pln2
  rw [hb, tak_putD h ha rfl]
  simp only
  rw [hu.1, hu.2]
  unfold pas
  rw [if_pos rfl]
  simp
  omega
theorem vec_putD {o r : List Int} {S : SentV} {a : Nat} {z : Bool} (hm : mayP S) (hw : wfS S) (h : o.drop a = bodyL S ++ r) (ha : a ≤ o.length) : ∃ a', vec2 o (a, z) = (S, (a', z)) ∧ a' ≤ o.length ∧ o.drop a' = r := by
  obtain ⟨sch, dim, L, V, scale, wide, lev, neg⟩ := S
  obtain ⟨hd1, hd4, hc⟩ := hm
  obtain ⟨w1, w2, w3, w4, w5, w6, w7⟩ := hw
  simp only at hd1 hd4 hc w1 w2 w3 w4 w5 w6 w7
  unfold bodyL tailL at h
  simp only [List.cons_append, List.append_assoc] at h
  obtain ⟨a1, e1, l1, q1⟩ := one_putD (z := z) h ha
  obtain ⟨a2, e2, l2, q2⟩ := num_putD (z := z) (by unfold U64; omega) (by omega) q1 l1
  unfold I64 at w5
  unfold vec2
  rw [e1]
  simp only
  rw [e2]
  simp only
  unfold rst2
  rcases hc with ⟨rfl, rfl, h2, rfl, rfl, rfl, rfl⟩ | ⟨rfl, h1, h2, rfl, rfl, rfl, rfl⟩ | ⟨rfl, h1, h2, h3, h4, rfl, rfl, h7, h8⟩ | ⟨rfl, rfl, rfl, rfl, rfl, h5, h6⟩
  · rw [if_pos rfl] at q2 ⊢
    obtain ⟨a3, e3, l3, q3⟩ := nms_putD (z := z) w4 q2 l2
    rw [h2] at e3
    unfold dns2
    rw [e3]
    exact ⟨a3, rfl, l3, q3⟩
  · rw [if_neg (by decide), if_pos rfl] at q2 ⊢
    rw [List.append_assoc] at q2
    obtain ⟨a3, e3, l3, q3⟩ := gix_putD (z := z) h1 q2 l2
    obtain ⟨a4, e4, l4, q4⟩ := nms_putD (z := z) w4 q3 l3
    rw [h2] at e4
    unfold top2
    rw [e3]
    simp only
    rw [e4]
    exact ⟨a4, rfl, l4, q4⟩
  · rw [if_neg (by decide), if_neg (by decide), if_pos rfl] at q2 ⊢
    simp only [List.cons_append, List.append_assoc] at q2
    obtain ⟨a3, e3, l3, q3⟩ := num_putD (z := z) (by unfold U64; omega) (by omega) q2 l2
    obtain ⟨a4, e4, l4, q4⟩ := one_putD (z := z) q3 l3
    obtain ⟨a5, e5, l5, q5⟩ := pln_putD (z := z) h1 h2 h3 hd4 h4 w7 q4 l4
    obtain ⟨a6, e6, l6, q6⟩ := sgs_putD (z := z) h8 hd4 q5 l5
    unfold lev2
    rw [e3]
    simp only
    rw [e4]
    simp only
    rw [e5]
    simp only
    rw [e6]
    exact ⟨a6, rfl, l6, q6⟩
  · rw [if_neg (by decide), if_neg (by decide), if_neg (by decide)] at q2
    rw [if_neg (by decide), if_neg (by decide), if_neg (by decide), if_pos rfl]
    simp only [List.append_assoc, List.nil_append] at q2
    obtain ⟨a3, e3, l3, q3⟩ := num_putD (z := z) (by unfold U64; omega) (by omega) q2 l2
    obtain ⟨a6, e6, l6, q6⟩ := sgs_putD (z := z) h6 hd4 q3 l3
    unfold sgn2
    rw [e3]
    simp only
    rw [e6]
    exact ⟨a6, rfl, l6, q6⟩
theorem frm_putD {f : FrameV} (hc : chkF f = 0) (hw : wfF f) : frm2 (textL f) = (f, ((textL f).length, false)) := by
  obtain ⟨h1, h2, h3, h4, h5⟩ := chkF_ok.1 hc
  obtain ⟨knd, frm, stp, S⟩ := f
  simp only at h1 h2 h3 h4 h5
  obtain ⟨o, ho⟩ : ∃ o, textL ⟨knd, frm, stp, S⟩ = o := ⟨_, rfl⟩
  rw [ho]
  unfold textL at ho
  simp only at ho
  have hb : o.drop 0 = 1 :: knd :: (lebI frm ++ (lebI stp ++ (if knd = 1 then bodyL S else []))) := by rw [List.drop_zero]; exact ho.symm
  obtain ⟨a1, e1, l1, q1⟩ := one_putD (z := false) hb (Nat.zero_le _)
  obtain ⟨a2, e2, l2, q2⟩ := one_putD (z := false) q1 l1
  obtain ⟨a3, e3, l3, q3⟩ := num_putD (z := false) (by unfold U64; omega) (by omega) q2 l2
  obtain ⟨a4, e4, l4, q4⟩ := num_putD (z := false) (by unfold U64; omega) (by omega) q3 l3
  unfold frm2
  rw [e1]
  simp only
  rw [show (false || ((1 : Int) != 1)) = false from rfl]
  unfold hed2
  rw [e2]
  simp only
  rw [e3]
  simp only
  rw [e4]
  simp only
  unfold bdy2
  rcases h5 with ⟨rfl, hm⟩ | ⟨rfl, hz⟩
  · rw [if_pos rfl] at q4 ⊢
    obtain ⟨a5, e5, l5, q5⟩ := vec_putD (z := false) (r := []) (mayB_iff.1 hm) hw.2.2.2 (by rw [List.append_nil]; exact q4) l4
    rw [e5]
    simp only
    have : a5 = o.length := by
      have := congrArg List.length q5
      rw [List.length_drop] at this
      simp at this
      omega
    rw [this]
  · rw [if_neg (by decide)] at q4 ⊢
    have : a4 = o.length := by
      have := congrArg List.length q4
      rw [List.length_drop] at this
      simp at this
      omega
    rw [this, sameS_iff.1 hz]
theorem pr_rd {b : List Int} (ub : U8s b) : prR b = rdR b := by
  unfold prR rdR
  by_cases he : openE b = 0
  · rw [if_neg (by rw [he]; decide), if_neg (by rw [he]; decide)]
    have uo := openV_u8 ub
    obtain ⟨o, ho⟩ : ∃ o, openV b = o := ⟨_, rfl⟩
    rw [ho] at uo ⊢
    unfold fin2
    obtain ⟨f, ⟨a, z⟩, hf⟩ : ∃ f u, frm2 o = (f, u) := ⟨_, _, rfl⟩
    rw [hf]
    simp only
    by_cases hbad : z = true ∨ a < o.length ∨ chkF f ≠ 0
    · rw [if_pos hbad]
      by_cases hr : (read1 o).2 = 0
      · exfalso
        obtain ⟨f2, e2, h2⟩ : ∃ f e, read1 o = (f, e) := ⟨_, _, rfl⟩
        rw [h2] at hr
        simp only at hr
        subst hr
        obtain ⟨hc, hw, ht⟩ := read1_back uo h2
        have hp := frm_putD hc hw
        rw [ht, hf] at hp
        simp only [Prod.mk.injEq] at hp
        obtain ⟨rfl, rfl, rfl⟩ := hp
        rcases hbad with h | h | h
        · simp at h
        · omega
        · exact h hc
      · exact (read1_bad hr).symm
    · rw [if_neg hbad]
      have hz : z = false := by cases z with
        | false => rfl
        | true => exact absurd (Or.inl rfl) hbad
      subst hz
      have ha : ¬ a < o.length := fun h => hbad (Or.inr (Or.inl h))
      have hc : chkF f = 0 := by
        by_cases e : chkF f = 0
        · exact e
        · exact absurd (Or.inr (Or.inr e)) hbad
      obtain ⟨hw, ht⟩ := frm_back uo hf ha hc
      have := read1_put hc hw
      rw [ht] at this
      exact this.symm
  · rw [if_pos he, if_pos he]
end Go.Proofs.YtjkhdfncahhnoaaGreat
/- The chapter's example; how many numbers are few enough. -/
namespace Go.Proofs.YtjkhdfncahhnoaaGreat
open Go.RowKit
set_option maxHeartbeats 400000
set_option maxRecDepth 100000
set_option linter.unusedVariables false
theorem tk_grow (w : World) (o : Obj) : Below w.heap.size w (w.alloc o) := (Below.refl _ _).alloc (Nat.le_refl _) o
/-- A list is found the same as itself. -/
theorem equal_me {X : List Int} (hX : X.length ≤ 9223372036854775807) {A B : Option Addr} {c d : Nat} (W : World) {L M : Nat} (ra : Rd (Value.int .i64) W L A X) (rb : Rd (Value.int .i64) W M B X) :
    Calls Tryz.prog 14 #[.slice A X.length c, .slice B X.length d] W fun e w' => e = .returned (.bool true) ∧ Below W.heap.size W w' := by
  have h := ref_Equal (A := A) (B := B) (c := c) (d := d) X X hX hX W ra rb
  rw [eqB_self] at h
  refine h.mono ?_
  rintro _ _ ⟨rfl, n, rfl⟩
  exact ⟨rfl, belowN _ _ _⟩
theorem tk_live (w : World) :
    Calls Tryz.prog 4 #[] w fun e w' => e = .returned (.bool true) ∧ Below w.heap.size w w' := by
  have C1 := hid (fun (A : Option Addr) (W : World) (h : Rd (Value.int .i64) W W.heap.size A [3, -5, 5, 1]) => tk_Pick (A := A) (c := 4) 2 (by decide) [3, -5, 5, 1] (by intro x hx; simp at hx; unfold I64; omega) (by decide) W h)
  rw [show pikE [3, -5, 5, 1] 2 = 0 by decide, show pikV [3, -5, 5, 1] 2 = [1, 2] by decide, show ([3, -5, 5, 1] : List Int).length = 4 from rfl] at C1
  have C2 := hid (fun (A B : Option Addr) (c : Nat) (W : World) (h1 : Rd (Value.int .i64) W W.heap.size A [1, 2]) (h2 : Rd (Value.int .i64) W W.heap.size B [3, -5, 5, 1]) => tk_Least (A := A) (B := B) (c := c) (d := 4) [1, 2] [3, -5, 5, 1] (by intro x hx; simp at hx; unfold I64; omega) (by decide) (by decide) W h1 h2)
  rw [show lstR [1, 2] [3, -5, 5, 1] = (5, true) by decide, show ([3, -5, 5, 1] : List Int).length = 4 from rfl, show ([1, 2] : List Int).length = 2 from rfl] at C2
  have C3 := hid (fun (A B : Option Addr) (c d : Nat) (W : World) (h1 : Rd (Value.int .i64) W W.heap.size A [1, 2]) (h2 : Rd (Value.int .i64) W W.heap.size B [1, 2]) => equal_me (X := [1, 2]) (by decide) (A := A) (B := B) (c := c) (d := d) W h1 h2)
  rw [show ([1, 2] : List Int).length = 2 from rfl] at C3
  go_enter Tryz.func4, Tryz.ntmps4
  go_wp2_with fail
  refine (C1.out _ _ (rd_new (enc := Value.int .i64) w 2 [3, -5, 5, 1])).mono ?_
  rintro _ w1 ⟨A1, c1, rfl, ho1, hb1⟩
  have k1 : Below w.heap.size w w1 := Below.trans (tk_grow w _) (hb1.mono (by simp))
  have R1 := hid (own_rd ho1)
  clear ho1 hb1 C1
  go_wp2_with fail
  have g1 := tk_grow w1 (.cells #[.int .i64 3, .int .i64 (-5), .int .i64 5, .int .i64 1] 2)
  refine (C2.out _ _ _ _ (R1.out.on g1) (rd_new (enc := Value.int .i64) w1 2 [3, -5, 5, 1])).mono ?_
  rintro _ w2 ⟨rfl, hb2⟩
  have k2 := k1.trans ((g1.trans (hb2.mono g1.size)).mono k1.size)
  have R2 := hid (R1.out.on (g1.trans (hb2.mono g1.size)))
  clear R1 g1 hb2 C2
  go_wp2_with fail
  have g2 := tk_grow w2 (.cells #[.int .i64 1, .int .i64 2] 3)
  refine (C3.out _ _ _ _ _ (R2.out.on g2) (rd_new (enc := Value.int .i64) w2 3 [1, 2])).mono ?_
  rintro _ w3 ⟨rfl, hb3⟩
  have k3 := k2.trans ((g2.trans (hb3.mono g2.size)).mono k2.size)
  clear g2 hb3
  go_wp2_with fail
  go_ret
  exact ⟨rfl, k3⟩
/-- Short enough to be played, or too long. -/
def fewT (v : List Int) : Bool := decide (v.length ≤ 200 ∨ (4096 < v.length ∧ v.length ≤ 5000))
theorem tk_few {A : Option Addr} {c : Nat} (n : List Int) (hn : n.length ≤ 9223372036854775807) (w : World) :
    Calls Tryz.prog 5 #[.slice A n.length c] w fun e w' => e = .returned (.bool (fewT n)) ∧ w = w' := by
  have HR : Hid (fewT n = true ↔ ((n.length : Int) ≤ 200 ∨ ((n.length : Int) > 4096 ∧ (n.length : Int) ≤ 5000))) := hid (by unfold fewT; rw [decide_eq_true_iff]; omega)
  obtain ⟨R, hR⟩ : ∃ R, fewT n = R := ⟨_, rfl⟩
  rw [hR] at HR ⊢
  clear hR
  go_enter Tryz.func5, Tryz.ntmps5
  go_wp2_with fail
  all_goals (go_ret; refine ⟨ret_of9 ?_, rfl⟩; rw [HR.out]; first | (simp [*]; done) | (simp [*]; omega))
end Go.Proofs.YtjkhdfncahhnoaaGreat
