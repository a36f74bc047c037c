
/- Ne: texts joined: FrN. -/
import Derived.Test.YtkcckncglbjjdaaNa
/- What follows of frames' texts: read back, written again, apart, how long. No program in sight. -/
namespace Go.Proofs.Ytkcckncglbjjdaa
set_option maxRecDepth 100000
set_option linter.unusedVariables false
theorem sealed_own {b : List Int} (ub : U8s b) : sealedB (b ++ le4 (sumN b)) = true := by
  have hl : (b ++ le4 (sumN b)).length = b.length + 4 := by rw [List.length_append, le4_len]
  rw [sealed_iff (ub.app (le4_bytes _)) (by omega), off_iff ub (sumN_lt b)]
theorem open_seal {b : List Int} (ub : U8s b) (hb : b.length ≤ 65532) : openV (sealV b) = b ∧ openE (sealV b) = 0 := by
  have e : sealV b = b ++ le4 (sumN b) := if_neg (by omega)
  rw [e]
  have hl : (b ++ le4 (sumN b)).length = b.length + 4 := by rw [List.length_append, le4_len]
  have hs := sealed_own ub
  unfold openV openE
  rw [hs, hl, if_neg (by simp only [Bool.true_eq_false, or_false]; omega), if_neg (by omega), if_neg (by omega), if_neg (by decide)]
  refine ⟨?_, rfl⟩
  rw [show b.length + 4 - 4 = b.length by omega, List.take_left]
theorem seal_open {b : List Int} (h : openE b = 0) : sealV (openV b) = b ∧ sealE (openV b) = 0 ∧ (openV b).length + 4 = b.length ∧ b.length ≤ 65536 := by
  unfold openE at h
  split at h
  · simp at h
  · rename_i h1
    split at h
    · simp at h
    · rename_i h2
      split at h
      · simp at h
      · rename_i h3
        have hs : sealedB b = true := by cases hb : sealedB b with
          | true => rfl
          | false => exact absurd hb h3
        have ho : openV b = b.take (b.length - 4) := by
          unfold openV
          rw [if_neg]
          rintro (h | h | h)
          · exact h1 h
          · exact h2 h
          · exact h3 h
        have hl : (openV b).length + 4 = b.length := by rw [ho, List.length_take]; omega
        unfold sealedB sealedB.eqL at hs
        rw [decide_eq_true_eq] at hs
        refine ⟨?_, ?_, hl, by omega⟩
        · unfold sealV
          rw [if_neg (by omega), ho, ← hs, List.take_append_drop]
        · unfold sealE
          rw [if_neg (by omega)]
theorem openV_u8 {l : List Int} (hl : U8s l) : U8s (openV l) := by
  unfold openV
  split
  · intro x hx; simp at hx
  · exact hl.take _
theorem sealV_u8 {l : List Int} (hl : U8s l) : U8s (sealV l) := by
  unfold sealV
  split
  · intro x hx; simp at hx
  · exact hl.app (le4_bytes _)
theorem sgnd_u8 {l : List Int} (h : ∀ x ∈ l, I64 x) : U8s (sgnd l) := encs_u8 (zigs_u64 h)
theorem sgnd_len {l : List Int} (h : ∀ x ∈ l, I64 x) : (sgnd l).length ≤ 10 * l.length := by
  have := encs_len (zigs_u64 h)
  rwa [List.length_map] at this
theorem U8s.cons {x : Int} {l : List Int} (h0 : 0 ≤ x) (h1 : x ≤ 255) (h : U8s l) : U8s (x :: l) := fun y hy => by
  rcases List.mem_cons.1 hy with rfl | hy
  · exact ⟨h0, h1⟩
  · exact h y hy
theorem body_u8 {s : SentV} (hm : mayP s) (hw : wfS s) : U8s (bodyL s) := by
  obtain ⟨sch, dim, L, V, scale, wide, lev, neg⟩ := s
  obtain ⟨hd1, hd4, hc⟩ := hm
  obtain ⟨w1, w2, w3, w4, w5, w6, w7⟩ := hw
  simp only at hd1 hd4 hc w1 w2 w3 w4 w5 w6 w7
  have ud := lebI_u8 dim (by omega)
  unfold bodyL tailL
  simp only
  rcases hc with ⟨rfl, rfl, h2, rfl, rfl, rfl, rfl⟩ | ⟨rfl, h1, h2, rfl, rfl, rfl, rfl⟩ | ⟨rfl, h1, h2, h3, h4, rfl, rfl, h7, h8⟩ | ⟨rfl, rfl, rfl, rfl, rfl, h5, h6⟩
  · exact .cons (by decide) (by decide) (ud.app (sgnd_u8 w4))
  · exact .cons (by decide) (by decide) (ud.app ((pixV_u8 _ _).app (sgnd_u8 w4)))
  · exact .cons (by decide) (by decide) (ud.app ((lebI_u8 scale h7).app ((U8s.cons (by omega) (by omega) (wevV_bytes _ _)).app (sgnV_bytes _))))
  · exact .cons (by decide) (by decide) (ud.app ((lebI_u8 scale h5).app (sgnV_bytes _)))
theorem body_len {s : SentV} {n : Nat} (hm : mayP s) (hw : wfS s) (hV : s.V.length ≤ n) : (bodyL s).length ≤ 45200 + 10 * n := by
  obtain ⟨sch, dim, L, V, scale, wide, lev, neg⟩ := s
  obtain ⟨hd1, hd4, hc⟩ := hm
  obtain ⟨w1, w2, w3, w4, w5, w6, w7⟩ := hw
  simp only at hd1 hd4 hc w1 w2 w3 w4 w5 w6 w7 hV
  have ld := lebI_ten (n := dim) (by unfold U64; omega)
  have lv := sgnd_len w4
  have lp := pixV_len dim L
  unfold bodyL tailL
  simp only [List.length_cons, List.length_append]
  rcases hc with ⟨rfl, rfl, h2, rfl, rfl, rfl, rfl⟩ | ⟨rfl, h1, h2, rfl, rfl, rfl, rfl⟩ | ⟨rfl, h1, h2, h3, h4, rfl, rfl, h7, h8⟩ | ⟨rfl, rfl, rfl, rfl, rfl, h5, h6⟩
  · rw [if_pos rfl]; omega
  · rw [if_neg (by decide), if_pos rfl, List.length_append]; omega
  · rw [if_neg (by decide), if_neg (by decide), if_pos rfl]
    have ls := lebI_ten (n := scale) (by unfold I64 at w5; unfold U64; omega)
    have hn := sgnV_len (l := neg) (by omega)
    have hb : bysE wide lev.length = 0 := by unfold bysE; rw [if_neg (by omega), if_neg (by omega)]
    have hm : mayE wide lev = 0 := by unfold mayE; rw [if_pos hb, if_pos h4]
    have hwl := ((may_same wide lev).2 hm).2
    have h9 : wide.toNat * lev.length ≤ 8 * 4096 := Nat.mul_le_mul (by omega) (by omega)
    simp only [List.length_cons, List.length_append]
    omega
  · rw [if_neg (by decide), if_neg (by decide), if_neg (by decide)]
    have ls := lebI_ten (n := scale) (by unfold I64 at w5; unfold U64; omega)
    have hn := sgnV_len (l := neg) (by omega)
    simp only [List.length_append, List.length_nil]
    omega
theorem text_u8 {f : FrameV} (hc : chkF f = 0) (hw : wfF f) : U8s (textL f) := by
  obtain ⟨h1, h2, h3, h4, h5⟩ := chkF_ok.1 hc
  have hk : f.knd = 1 ∨ f.knd = 2 := by rcases h5 with h | h; exact Or.inl h.1; exact Or.inr h.1
  unfold textL
  refine .cons (by decide) (by decide) (.cons (by omega) (by omega) ((lebI_u8 _ h1).app ((lebI_u8 _ h3).app ?_)))
  rcases h5 with ⟨e, hm⟩ | ⟨e, hz⟩
  · rw [if_pos e]; exact body_u8 (mayB_iff.1 hm) hw.2.2.2
  · rw [if_neg (by omega)]; intro x hx; simp at hx
theorem text_len {f : FrameV} {n : Nat} (hc : chkF f = 0) (hw : wfF f) (hV : f.S.V.length ≤ n) : (textL f).length ≤ 45300 + 10 * n := by
  obtain ⟨h1, h2, h3, h4, h5⟩ := chkF_ok.1 hc
  have lf := lebI_ten (n := f.frm) (by unfold U64; omega)
  have ls := lebI_ten (n := f.stp) (by unfold U64; omega)
  unfold textL
  simp only [List.length_cons, List.length_append]
  rcases h5 with ⟨e, hm⟩ | ⟨e, hz⟩
  · rw [if_pos e]
    have := body_len (mayB_iff.1 hm) hw.2.2.2 hV
    omega
  · rw [if_neg (by omega)]
    simp only [List.length_nil]
    omega
/-- Written, and read. -/
theorem wrt_ok {f : FrameV} (hw : wfF f) (hV : f.S.V.length ≤ 1000) : (wrtE f = 0 ↔ chkF f = 0) ∧ (wrtE f = 0 ∨ wrtE f = 1) := by
  unfold wrtE
  by_cases hc : chkF f = 0
  · have := text_len hc hw hV
    have hs : sealE (textL f) = 0 := if_neg (by omega)
    rw [if_pos hc, hs]
    simp [hc]
  · rw [if_neg hc]
    simp [hc]
theorem rd_wrt {f : FrameV} (hw : wfF f) (hV : f.S.V.length ≤ 1000) (h : wrtE f = 0) : rdR (wrtV f) = (f, 0) ∧ U8s (wrtV f) ∧ (wrtV f).length = (textL f).length + 4 ∧ off (wrtV f) = 0 := by
  have hc := (wrt_ok hw hV).1.1 h
  have hl := text_len hc hw hV
  have hu := text_u8 hc hw
  have e : wrtV f = sealV (textL f) := if_pos hc
  have e2 : sealV (textL f) = textL f ++ le4 (sumN (textL f)) := if_neg (by omega)
  obtain ⟨h1, h2⟩ := open_seal hu (by omega)
  refine ⟨?_, by rw [e]; exact sealV_u8 hu, by rw [e, e2, List.length_append, le4_len], ?_⟩
  · unfold rdR
    rw [e, h2, if_neg (by decide), h1]
    exact read1_put hc hw
  · rw [e, e2]
    exact (off_iff hu (sumN_lt _)).2 rfl
theorem wrt_rd {b : List Int} {f : FrameV} (ub : U8s b) (h : rdR b = (f, 0)) : chkF f = 0 ∧ wfF f ∧ wrtV f = b ∧ wrtE f = 0 := by
  unfold rdR at h
  by_cases he : openE b = 0
  · rw [if_neg (by rw [he]; decide)] at h
    obtain ⟨hc, hw, ht⟩ := read1_back (openV_u8 ub) h
    obtain ⟨h1, h2, _, _⟩ := seal_open he
    refine ⟨hc, hw, ?_, ?_⟩
    · unfold wrtV; rw [if_pos hc, ht, h1]
    · unfold wrtE; rw [if_pos hc, ht, h2]
  · rw [if_pos he] at h
    simp only [Prod.mk.injEq] at h
    exact absurd h.2 he
theorem rd_bad {b : List Int} (h : (rdR b).2 ≠ 0) : (rdR b).1 = zeroF := by
  unfold rdR at h ⊢
  by_cases he : openE b = 0
  · rw [if_neg (by rw [he]; decide)] at h ⊢
    rw [read1_bad h]
  · rw [if_pos he]
theorem rd_cases (b : List Int) : (rdR b).2 = openE b ∨ openE b = 0 ∧ (rdR b).2 = 6 := by
  unfold rdR
  by_cases he : openE b = 0
  · rw [if_neg (by rw [he]; decide)]
    by_cases h : (read1 (openV b)).2 = 0
    · left; rw [h, he]
    · right; rw [read1_bad h]; exact ⟨he, rfl⟩
  · rw [if_pos he]
    left; rfl
theorem apart {f g : FrameV} (hf : wfF f) (hg : wfF g) (lf : f.S.V.length ≤ 1000) (lg : g.S.V.length ≤ 1000) (h1 : wrtE f = 0) (h2 : wrtE g = 0) : eqB (wrtV f) (wrtV g) = sameF f g := by
  have a := (rd_wrt hf lf h1).1
  have b := (rd_wrt hg lg h2).1
  by_cases e : f = g
  · subst e
    rw [eqB_self, sameF_self]
  · have hs : sameF f g = false := by
      cases h : sameF f g with
      | false => rfl
      | true => exact absurd (sameF_iff.1 h) e
    rw [hs]
    unfold eqB
    rw [decide_eq_false_iff_not]
    intro he
    rw [he, b] at a
    simp only [Prod.mk.injEq, and_true] at a
    exact e a.symm
/-- How long its lists are, if it may be; what is read. -/
theorem may_len {s : SentV} (h : mayP s) : s.L.length ≤ 4096 ∧ s.V.length ≤ 4096 ∧ s.lev.length ≤ 4096 ∧ s.neg.length ≤ 4096 := by
  obtain ⟨sch, dim, L, V, scale, wide, lev, neg⟩ := s
  obtain ⟨hd1, hd4, hc⟩ := h
  simp only at hd1 hd4 hc ⊢
  rcases hc with ⟨_, rfl, h2, _, rfl, _, rfl⟩ | ⟨_, h1, h2, _, rfl, _, rfl⟩ | ⟨_, _, _, h3, _, rfl, rfl, _, h8⟩ | ⟨_, rfl, rfl, _, rfl, _, h6⟩
  · simp; omega
  · have := plc_le (chk_ok.1 h1)
    simp; omega
  · simp; omega
  · simp; omega
theorem chk_len {f : FrameV} (h : chkF f = 0) : f.S.L.length ≤ 4096 ∧ f.S.V.length ≤ 4096 ∧ f.S.lev.length ≤ 4096 ∧ f.S.neg.length ≤ 4096 := by
  obtain ⟨_, _, _, _, h5⟩ := chkF_ok.1 h
  rcases h5 with ⟨_, hm⟩ | ⟨_, hz⟩
  · exact may_len (mayB_iff.1 hm)
  · rw [sameS_iff.1 hz]; simp [zeroS]
theorem rd_all {b : List Int} (ub : U8s b) : wfF (rdR b).1 ∧ (rdR b).1.S.L.length ≤ 4096 ∧ (rdR b).1.S.V.length ≤ 4096 ∧ (rdR b).1.S.lev.length ≤ 4096 ∧ (rdR b).1.S.neg.length ≤ 4096 := by
  by_cases h : (rdR b).2 = 0
  · obtain ⟨f, e, hf⟩ : ∃ f e, rdR b = (f, e) := ⟨_, _, rfl⟩
    rw [hf] at h ⊢
    simp only at h
    subst h
    obtain ⟨hc, hw, _, _⟩ := wrt_rd ub hf
    exact ⟨hw, chk_len hc⟩
  · rw [rd_bad h]
    exact ⟨⟨by decide, by decide, by decide, wf_zeroS⟩, by simp [zeroF, zeroS]⟩
/-- An acknowledgement. -/
def ackF (frm stp : Int) : FrameV := ⟨2, frm, stp, zeroS⟩
theorem ack_wf {frm stp : Int} (h1 : I64 frm) (h2 : I64 stp) : wfF (ackF frm stp) := ⟨show I64 2 by decide, h1, h2, wf_zeroS⟩
theorem ack_chk {frm stp : Int} : chkF (ackF frm stp) = 0 ↔ (0 ≤ frm ∧ frm < 64 ∧ 0 ≤ stp ∧ stp ≤ 1073741824) := by
  rw [chkF_ok]
  unfold frmP ackF
  simp only
  constructor
  · rintro ⟨h1, h2, h3, h4, _⟩; exact ⟨h1, h2, h3, h4⟩
  · rintro ⟨h1, h2, h3, h4⟩; exact ⟨h1, h2, h3, h4, by simp [sameS_iff]⟩
theorem ack_text (frm stp : Int) : textL (ackF frm stp) = 1 :: 2 :: encs [frm, stp] := by
  unfold textL ackF
  simp only
  rw [if_neg (by decide), List.append_nil, encs_cons, encs_one]
/-- Bent. -/
theorem no_frm {f : FrameV} : chkF { f with frm := 64 } = 1 := chkF_no (fun h => by have := h.2.1; simp at this)
theorem no_knd {f : FrameV} (h : chkF f = 0) : chkF { f with knd := 3 - f.knd } = 1 := chkF_no (fun h2 => by
  obtain ⟨_, _, _, _, h5⟩ := chkF_ok.1 h
  obtain ⟨_, _, _, _, h6⟩ := h2
  simp only at h6
  have key : mayB f.S = true → sameS f.S zeroS = true → False := fun a b => by
    rw [sameS_iff.1 b] at a
    have := (mayB_iff.1 a).1
    simp [zeroS] at this
  rcases h5 with ⟨e, hm⟩ | ⟨e, hz⟩
  · rcases h6 with ⟨e2, hm2⟩ | ⟨e2, hz2⟩
    · omega
    · exact key hm hz2
  · rcases h6 with ⟨e2, hm2⟩ | ⟨e2, hz2⟩
    · exact key hm2 hz
    · omega)
theorem may_kinds {f : FrameV} (h : chkF f = 0) : mayB f.S = (f.knd == 1) := by
  obtain ⟨_, _, _, _, h5⟩ := chkF_ok.1 h
  rcases h5 with ⟨e, hm⟩ | ⟨e, hz⟩
  · rw [hm, e]; rfl
  · rw [e, sameS_iff.1 hz]
    rfl
theorem no_V {f : FrameV} (h : chkF f = 0) : chkF { f with S := { f.S with V := f.S.V ++ [1] } } = 1 := chkF_no (fun h2 => by
  obtain ⟨_, _, _, _, h5⟩ := chkF_ok.1 h
  obtain ⟨_, _, _, _, h6⟩ := h2
  simp only at h6
  rcases h6 with ⟨e2, hm2⟩ | ⟨e2, hz2⟩
  · rcases h5 with ⟨e, hm⟩ | ⟨e, hz⟩
    · obtain ⟨_, _, a⟩ := mayB_iff.1 hm
      obtain ⟨_, _, b⟩ := mayB_iff.1 hm2
      simp only [List.length_append, List.length_singleton] at b
      rcases a with a | a | a | a <;> rcases b with b | b | b | b
      all_goals first
        | (have := a.1; have := b.1; omega)
        | (have := a.2.2.1; have := b.2.2.1; omega)
        | (have := b.2.2.2.2.2.2.1; simp at this)
        | (have := b.2.2.1; simp at this)
    · omega
  · have := sameS_iff.1 hz2
    have := congrArg SentV.V this
    simp [zeroS] at this)
theorem no_L {f : FrameV} (h : chkF f = 0) : chkF { f with S := { f.S with L := f.S.L ++ [f.S.dim] } } = 1 := chkF_no (fun h2 => by
  obtain ⟨_, _, _, _, h6⟩ := h2
  simp only at h6
  rcases h6 with ⟨e2, hm2⟩ | ⟨e2, hz2⟩
  · obtain ⟨_, _, b⟩ := mayB_iff.1 hm2
    simp only at b
    rcases b with b | b | b | b
    · have := b.2.1; simp at this
    · have := (chk_ok.1 b.2.1).2.2.2 f.S.dim (by simp)
      omega
    · have := b.2.2.2.2.2.1; simp at this
    · have := b.2.1; simp at this
  · have := sameS_iff.1 hz2
    have := congrArg SentV.L this
    simp [zeroS] at this)
theorem no_scale {f : FrameV} : chkF { f with S := { f.S with scale := -1 } } = 1 := chkF_no (fun h2 => by
  obtain ⟨_, _, _, _, h6⟩ := h2
  simp only at h6
  rcases h6 with ⟨e2, hm2⟩ | ⟨e2, hz2⟩
  · obtain ⟨_, _, b⟩ := mayB_iff.1 hm2
    simp only at b
    rcases b with b | b | b | b
    · have := b.2.2.2.2.2.1; omega
    · have := b.2.2.2.2.2.1; omega
    · have := b.2.2.2.2.2.2.2.1; omega
    · have := b.2.2.2.2.2.1; omega
  · have := sameS_iff.1 hz2
    have := congrArg SentV.scale this
    simp [zeroS] at this)
end Go.Proofs.Ytkcckncglbjjdaa
