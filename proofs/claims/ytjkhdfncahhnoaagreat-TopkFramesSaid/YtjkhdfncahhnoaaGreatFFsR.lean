
/- FFsR: texts joined: FsR. -/
import Derived.Test.YtjkhdfncahhnoaaGreatFFsQ0
import Derived.Test.YtjkhdfncahhnoaaGreatFFsQ1
import Derived.Test.YtjkhdfncahhnoaaGreatFFsQ2
import Derived.Test.YtjkhdfncahhnoaaGreatFFsQ3
import Derived.Test.YtjkhdfncahhnoaaGreatFg
import Derived.Test.YtjkhdfncahhnoaaGreatFa
/- Bodies, texts, and how many bytes, by the program. -/
namespace Go.Proofs.YtjkhdfncahhnoaaGreat
open Go.RowKit
set_option maxHeartbeats 1000000
set_option maxRecDepth 100000
set_option linter.unusedVariables false
theorem wx_body (s : SentV) (p : SentP) (hn : lnS 5000 s) (hw : wfS s) (hm : mayP s) (w : World) (ra : RdS w w.heap.size s p) :
    Calls Tryz.prog 17 #[encT s p] w (OwnOf 5 .u8 w.heap.size (bodyL s) w) := by
  have rb : ∀ W, Below w.heap.size w W → RdS W W.heap.size s p := fun W h => ⟨(ra.1.below h).more h.size, (ra.2.1.below h).more h.size, (ra.2.2.1.below h).more h.size, (ra.2.2.2.below h).more h.size⟩
  obtain ⟨hd1, hd4, hc⟩ := hm
  have hsc : I64 s.scale := hw.2.2.2.2.1
  unfold I64 at hsc
  have lv : (sgnd s.V).length ≤ 50000 := by have := sgnd_len hw.2.2.2.1; have := hn.2.1; omega
  have lp := pixV_len s.dim s.L
  rcases hc with ⟨e, h⟩ | ⟨e, h⟩ | ⟨e, h1, h2, h3, h4, h5, h6, h7, h8⟩ | ⟨e, h1, h2, h3, h4, h5, h6⟩
  · have hh := wx_bodyK_dense s p e hd1 hd4 (sgnd s.V) (by omega) w (fun W h => wx_dense s p hn hw W (rb W h))
    have eb : ([s.sch] ++ encs [s.dim]) ++ sgnd s.V = bodyL s := by
      unfold bodyL tailL
      rw [if_pos e, encs_one]; simp
    rw [eb] at hh; exact hh
  · have hh := wx_bodyK_top s p e hd1 hd4 (pixV s.dim s.L ++ sgnd s.V) (by have a := plc_le (chk_ok.1 h.1); have b := h.2.1; have c := sgnd_len hw.2.2.2.1; rw [List.length_append]; omega) w (fun W h => wx_top s p hn hw W (rb W h))
    have eb : ([s.sch] ++ encs [s.dim]) ++ (pixV s.dim s.L ++ sgnd s.V) = bodyL s := by
      unfold bodyL tailL
      rw [if_neg (by omega), if_pos e, encs_one]; simp
    rw [eb] at hh; exact hh
  · have hwl2 : (wevV s.wide s.lev).length ≤ 5000 := by
      have hb8 : bysE s.wide s.lev.length = 0 := by unfold bysE; rw [if_neg (by omega), if_neg (by omega)]
      have hme : mayE s.wide s.lev = 0 := by unfold mayE; rw [if_pos hb8, if_pos h4]
      have h9 : s.wide.toNat * s.lev.length ≤ 8 * 4096 := Nat.mul_le_mul (by omega) (by omega)
      rw [((may_same s.wide s.lev).2 hme).2]; omega
    have l1 := lebI_ten (n := s.scale) (by unfold U64; omega)
    have l2 := sgnV_len (l := s.neg) (by omega)
    have hh := wx_bodyK_level s p e hd1 hd4 (lebI s.scale ++ ((s.wide :: wevV s.wide s.lev) ++ sgnV s.neg)) (by simp; omega) w (fun W h => wx_level s p hn hw h7 h1 h2 (by omega) h4 W (rb W h))
    have eb : ([s.sch] ++ encs [s.dim]) ++ (lebI s.scale ++ ((s.wide :: wevV s.wide s.lev) ++ sgnV s.neg)) = bodyL s := by
      unfold bodyL tailL
      rw [if_neg (by omega), if_neg (by omega), if_pos e, encs_one]; simp
    rw [eb] at hh; exact hh
  · have l1 := lebI_ten (n := s.scale) (by unfold U64; omega)
    have l2 := sgnV_len (l := s.neg) (by omega)
    have hh := wx_bodyK_sign s p e hd1 hd4 (lebI s.scale ++ sgnV s.neg) (by simp; omega) w (fun W h => wx_sign s p hn h5 hsc.2 W (rb W h))
    have eb : ([s.sch] ++ encs [s.dim]) ++ (lebI s.scale ++ sgnV s.neg) = bodyL s := by
      unfold bodyL tailL
      rw [if_neg (by omega), if_neg (by omega), if_neg (by omega), encs_one]; simp
    rw [eb] at hh; exact hh
theorem text_lenM {f : FrameV} (hc : chkF f = 0) (hw : wfF f) : (textL f).length ≤ 90000 := by
  have h1 := (chk_len hc).2.1
  have := text_len hc hw h1
  omega
theorem wx_Write (f : FrameV) (p : SentP) (hn : lnS 5000 f.S) (hw : wfF f) (w : World) (ra : RdS w w.heap.size f.S p) :
    Calls Tryz.prog 7 #[encF f p] w (OwnE 5 .u8 w.heap.size (wrtV f) (wrtE f) w) := by
  have rb : ∀ W, Below w.heap.size w W → RdS W W.heap.size f.S p := fun W h => ⟨(ra.1.below h).more h.size, (ra.2.1.below h).more h.size, (ra.2.2.1.below h).more h.size, (ra.2.2.2.below h).more h.size⟩
  have CC := hid (fun W (h : Below w.heap.size w W) => fs_Check f p (hn.more (by omega)) hw W (rb W h))
  unfold wrtV wrtE
  by_cases hc : chkF f = 0
  · have hu := text_u8 hc hw
    have htl := text_lenM hc hw
    obtain ⟨h1, h2, h3, h4, h5⟩ := chkF_ok.1 hc
    rw [if_pos hc, if_pos hc]
    rw [hc] at CC
    have hk : f.knd = 1 ∨ f.knd = 2 := by rcases h5 with h | h; exact Or.inl h.1; exact Or.inr h.1
    have hT1 : f.knd = 1 → ([1, f.knd] ++ encs [f.frm, f.stp]) ++ bodyL f.S = textL f := fun e => by
      unfold textL
      rw [if_pos e, encs_cons, encs_one]
      simp
    have hT2 : f.knd = 2 → ([1, f.knd] ++ encs [f.frm, f.stp]) = textL f := fun e => by
      unfold textL
      rw [if_neg (by omega), encs_cons, encs_one]
      simp
    have CS := hid (fun A d W (h : Rd (Value.int .u8) W W.heap.size A (textL f)) => crc_Seal (A := A) (c := d) (textL f) (by omega) hu W h)
    obtain ⟨SV, hSV⟩ : ∃ SV, sealV (textL f) = SV := ⟨_, rfl⟩
    obtain ⟨SE, hSE⟩ : ∃ SE, sealE (textL f) = SE := ⟨_, rfl⟩
    rw [hSV, hSE] at CS ⊢
    obtain ⟨T, hT⟩ : ∃ T, textL f = T := ⟨_, rfl⟩
    rw [hT] at CS hT1 hT2 htl
    have hPl : ([1, f.knd] ++ encs [f.frm, f.stp]).length ≤ 30 := by
      have a := lebI_ten (n := f.frm) (by unfold U64; omega)
      have b := lebI_ten (n := f.stp) (by unfold U64; omega)
      rw [encs_cons, encs_one]
      simp; omega
    have CP := hid (fun (W : World) (A B : Option Addr) (ha : Rd (Value.int .u8) W W.heap.size A [1, f.knd]) (hb : Rd (Value.int .u64) W W.heap.size B [f.frm, f.stp]) => leb_Put (A := A) (B := B) (c := 2) (d := 2) [1, f.knd] [f.frm, f.stp] (by simp) (by simp) (by
      intro x hx; simp at hx; rcases hx with rfl | rfl
      · unfold U64; omega
      · unfold U64; omega) W ha hb)
    obtain ⟨P, hP⟩ : ∃ P, [1, f.knd] ++ encs [f.frm, f.stp] = P := ⟨_, rfl⟩
    rw [hP] at CP hT1 hT2 hPl
    have CB := hid (fun W (h : Below w.heap.size w W) (e : f.knd = 1) => wx_body f.S p hn hw.2.2.2 (by rcases h5 with h | h; exact mayB_iff.1 h.2; have := h.1; omega) W (rb W h))
    have HB0 := hid (boxF_new w f p 37)
    clear hSV hSE hT hP hu h5 hc ra rb hn hw
    go_enter Tryz.func7, Tryz.ntmps7
    go_wp2_with fail
    refine (CC.out _ (by go_grown)).mono ?_
    rintro _ w1 ⟨rfl, hb1⟩
    have k1 : Below w.heap.size w w1 := Below.trans (by go_grown) (hb1.mono (by simp))
    have HB1 := hid (HB0.out.below hb1 (by simp))
    clear hb1 CC HB0
    obtain ⟨c0, c1, c2, c3, c4, c5, c6, c7, c8, c9, c10⟩ := HB1.out
    have hlt1 : w.heap.size < w1.heap.size := lt_of_cell c0
    rcases hk with hk | hk
    · have hT := hT1 hk
      have CB1 := hid (fun W h => CB.out W h hk)
      clear CB
      obtain ⟨BV, hBV⟩ : ∃ BV, bodyL f.S = BV := ⟨_, rfl⟩
      rw [hBV] at CB1
      rw [hBV] at hT
      have hTl : P.length + BV.length = T.length := by rw [← hT, List.length_append]
      have HT := hid hT
      have HTl := hid hTl
      have hPB : P.length + BV.length ≤ 90000 := by omega
      clear hT hT1 hT2 hBV hTl
      obtain ⟨z1, z2, kz⟩ := two_rd w1 .u8 .u64 1 f.knd f.frm f.stp 5 47
      rw [hk] at z1 z2 kz CP
      have hz := kz.size
      go_wp2_with fail
      refine (CP.out _ _ _ z1 z2).mono ?_
      rintro _ w2 ⟨A2, d2, rfl, ho2, hb2⟩
      have hb12 : Below w1.heap.size w1 w2 := kz.trans (hb2.mono kz.size)
      have k2 : Below w.heap.size w w2 := k1.trans (hb12.mono k1.size)
      have HB2 := hid (HB1.out.below hb12 hlt1)
      have HO2 := hid (own_base ho2 (show w.heap.size ≤ _ by have := k1.size; omega))
      clear hb2 kz hb12 ho2 c0 c1 c2 c3 c4 c5 c6 c7 c8 c9 c10 CP HB1 hlt1 k1 z1 z2 hz
      obtain ⟨c0, c1, c2, c3, c4, c5, c6, c7, c8, c9, c10⟩ := HB2.out
      have hlt2 : w.heap.size < w2.heap.size := lt_of_cell c0
      have CB2 := hid (CB1.out w2 k2)
      clear CB1
      go_wp2_with fail
      refine CB2.out.mono ?_
      rintro _ w3 ⟨A3, d3, rfl, ho3, hb3⟩
      have h0 := own_on HO2.out hb3
      have hr3 := own_rd ho3
      have k3 : Below w.heap.size w w3 := k2.trans (hb3.mono k2.size)
      have hks := k3.size
      clear CB2 c0 c1 c2 c3 c4 c5 c6 c7 c8 c9 c10
      go_wp2_with (at_builtin; refine wpList_app (Value.int .u8) (fun _ => rfl) _ rfl _ _ 33 rfl w.heap.size 5 (.int .u8 0) 1 Tryz.underlying33 info_u8 rfl P _ _ rfl h0 BV _ d3 _ rfl hr3 (by simp [maxLen]; omega) (by simp; omega) (hks) ?_)
      rintro Z A4 d4 w4 hZ ho4 hb4 _
      have k4 := k3.trans hb4
      obtain rfl : Z = T := by rw [hZ, HT.out]
      have CS4 := hid (CS.out A4 d4 w4 (own_rd ho4))
      clear CS hZ h0 hr3 ho4 HT
      go_wp2_with fail
      refine CS4.out.mono ?_
      rintro _ w5 ⟨A5, d5, rfl, ho5, hb5⟩
      have HO5 := hid (own_base ho5 k4.size)
      clear ho5
      go_wp2_with fail
      go_ret2
      exact ⟨A5, d5, rfl, HO5.out, k4.trans (hb5.mono k4.size)⟩
    · obtain rfl := hT2 hk
      clear hT1 hT2 CB
      obtain ⟨z1, z2, kz⟩ := two_rd w1 .u8 .u64 1 f.knd f.frm f.stp 5 47
      rw [hk] at z1 z2 kz CP
      have hz := kz.size
      go_wp2_with fail
      refine (CP.out _ _ _ z1 z2).mono ?_
      rintro _ w2 ⟨A2, d2, rfl, ho2, hb2⟩
      have hb12 : Below w1.heap.size w1 w2 := kz.trans (hb2.mono kz.size)
      have k2 : Below w.heap.size w w2 := k1.trans (hb12.mono k1.size)
      have HB2 := hid (HB1.out.below hb12 hlt1)
      have HO2 := hid (own_base ho2 (show w.heap.size ≤ _ by have := k1.size; omega))
      clear hb2 kz hb12 ho2 c0 c1 c2 c3 c4 c5 c6 c7 c8 c9 c10 CP HB1 hlt1 k1 z1 z2 hz
      obtain ⟨c0, c1, c2, c3, c4, c5, c6, c7, c8, c9, c10⟩ := HB2.out
      have hlt2 : w.heap.size < w2.heap.size := lt_of_cell c0
      have CS4 := hid (CS.out A2 d2 w2 (own_rd HO2.out))
      clear CS
      go_wp2_with fail
      refine CS4.out.mono ?_
      rintro _ w5 ⟨A5, d5, rfl, ho5, hb5⟩
      have HO5 := hid (own_base ho5 k2.size)
      clear ho5
      go_wp2_with fail
      go_ret2
      exact ⟨A5, d5, rfl, HO5.out, k2.trans (hb5.mono k2.size)⟩
  · have hc1 : chkF f = 1 := chkF_no (fun h => hc (chkF_ok.2 h))
    rw [if_neg hc, if_neg hc]
    rw [hc1] at CC
    clear hc hc1 ra rb hn hw
    go_enter Tryz.func7, Tryz.ntmps7
    go_wp2_with fail
    refine (CC.out _ (by go_grown)).mono ?_
    rintro _ w1 ⟨rfl, hb1⟩
    go_wp2_with fail
    go_ret2
    exact .nil (Below.trans (by go_grown) (hb1.mono (by simp)))
theorem wrtV_lenM (f : FrameV) (hw : wfF f) : (wrtV f).length ≤ 100000 := by
  unfold wrtV
  split
  · rename_i hc
    have := text_lenM hc hw
    unfold sealV
    split
    · simp
    · rw [List.length_append, le4_len]; omega
  · simp
end Go.Proofs.YtjkhdfncahhnoaaGreat
