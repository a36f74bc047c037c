
/- Fb: texts joined: FrM Eq IxA LebA LebB LebC LebD IxB PlA PlB PlC PlD PlE PlF Fun PlO PlQ Box FrN FsP Step. -/
import Derived.Test.YtjkhdfncahhnoaaGreatFa
import Derived.RegionTactic
import Derived.ChangeAlike
import Derived.Test.YtjkhdfncahhnoaaGreatShelf
import Derived.WalkSpells
import Derived.WalkLawsBesides
import Derived.Laws.Bits64b
import Derived.OwnWalk
import Derived.Outline
import Derived.Deep.QuietTactic
import Derived.BigQuiet
import Derived.StillTailTactics
import Derived.Deep.RegionHeld3
import Derived.Maps.OwnSet
import Derived.Deep.RegionLaw
/- Pressed vectors, frames, their texts, and what a text is: plain words. No program in sight. -/
namespace Go.Proofs.YtjkhdfncahhnoaaGreat
set_option maxRecDepth 100000
set_option linter.unusedVariables false
/-- A pressed vector. -/
structure SentV where
  sch : Int
  dim : Int
  L : List Int
  V : List Int
  scale : Int
  wide : Int
  lev : List Int
  neg : List Bool
def zeroS : SentV := ⟨0, 0, [], [], 0, 0, [], []⟩
/-- A frame. -/
structure FrameV where
  knd : Int
  frm : Int
  stp : Int
  S : SentV
def zeroF : FrameV := ⟨0, 0, 0, zeroS⟩
def eqN (a b : List Bool) : Bool := decide (a = b)
def sameS (a b : SentV) : Bool := (a.sch == b.sch) && ((a.dim == b.dim) && (eqB a.L b.L && (eqB a.V b.V && ((a.scale == b.scale) && ((a.wide == b.wide) && (eqB a.lev b.lev && eqN a.neg b.neg))))))
def sameF (a b : FrameV) : Bool := (a.knd == b.knd) && ((a.frm == b.frm) && ((a.stp == b.stp) && sameS a.S b.S))
theorem sameS_iff {a b : SentV} : sameS a b = true ↔ a = b := by
  obtain ⟨a1, a2, a3, a4, a5, a6, a7, a8⟩ := a
  obtain ⟨b1, b2, b3, b4, b5, b6, b7, b8⟩ := b
  unfold sameS eqB eqN
  simp
theorem sameF_iff {a b : FrameV} : sameF a b = true ↔ a = b := by
  obtain ⟨a1, a2, a3, a4⟩ := a
  obtain ⟨b1, b2, b3, b4⟩ := b
  unfold sameF
  simp [sameS_iff]
theorem sameF_self (a : FrameV) : sameF a a = true := sameF_iff.2 rfl
/-- Whether it may be. -/
def mayP (s : SentV) : Prop := 1 ≤ s.dim ∧ s.dim ≤ 4096 ∧
  ((s.sch = 0 ∧ s.L = [] ∧ (s.V.length : Int) = s.dim ∧ s.wide = 0 ∧ s.lev = [] ∧ s.scale = 0 ∧ s.neg = []) ∨
   (s.sch = 1 ∧ chkE s.dim s.L = 0 ∧ s.V.length = s.L.length ∧ s.wide = 0 ∧ s.lev = [] ∧ s.scale = 0 ∧ s.neg = []) ∨
   (s.sch = 2 ∧ 1 ≤ s.wide ∧ s.wide ≤ 8 ∧ (s.lev.length : Int) = s.dim ∧ fitsB s.wide s.lev = true ∧ s.L = [] ∧ s.V = [] ∧ 0 ≤ s.scale ∧ (s.neg.length : Int) = s.dim) ∨
   (s.sch = 3 ∧ s.L = [] ∧ s.V = [] ∧ s.wide = 0 ∧ s.lev = [] ∧ 0 ≤ s.scale ∧ (s.neg.length : Int) = s.dim))
instance (s : SentV) : Decidable (mayP s) := by unfold mayP; infer_instance
def mayB (s : SentV) : Bool := decide (mayP s)
theorem mayB_iff {s : SentV} : mayB s = true ↔ mayP s := by unfold mayB; exact decide_eq_true_iff
theorem mayB_no {s : SentV} (h : ¬ mayP s) : mayB s = false := decide_eq_false h
def frmP (f : FrameV) : Prop := 0 ≤ f.frm ∧ f.frm < 64 ∧ 0 ≤ f.stp ∧ f.stp ≤ 1073741824 ∧ ((f.knd = 1 ∧ mayB f.S = true) ∨ (f.knd = 2 ∧ sameS f.S zeroS = true))
instance (f : FrameV) : Decidable (frmP f) := by unfold frmP; infer_instance
def chkF (f : FrameV) : Int := if frmP f then 0 else 1
theorem chkF_ok {f : FrameV} : chkF f = 0 ↔ frmP f := by unfold chkF; split <;> simp_all
theorem chkF_no {f : FrameV} (h : ¬ frmP f) : chkF f = 1 := if_neg h
/-- Signed codes. -/
def sgnd (l : List Int) : List Int := encs (l.map zigI)
/-- What stands behind the scheme and the dimension. -/
def tailL (s : SentV) : List Int :=
  if s.sch = 0 then sgnd s.V else if s.sch = 1 then pixV s.dim s.L ++ sgnd s.V else lebI s.scale ++ ((if s.sch = 2 then s.wide :: wevV s.wide s.lev else []) ++ sgnV s.neg)
def bodyL (s : SentV) : List Int := s.sch :: (lebI s.dim ++ tailL s)
def bodyV (s : SentV) : List Int := if mayB s = true then bodyL s else []
def bodyE (s : SentV) : Int := if mayB s = true then 0 else 1
def textL (f : FrameV) : List Int := 1 :: f.knd :: (lebI f.frm ++ (lebI f.stp ++ (if f.knd = 1 then bodyL f.S else [])))
def wrtE (f : FrameV) : Int := if chkF f = 0 then sealE (textL f) else 1
def wrtV (f : FrameV) : List Int := if chkF f = 0 then sealV (textL f) else []
/-- What is still to be read, and whether it is none. -/
abbrev Tx := List Int × Bool
def badT : Tx := ([], true)
def by1 (t : Tx) : Int × Tx := if t.2 = true ∨ t.1 = [] then (0, badT) else (t.1.headD 0, t.1.tail, false)
def num1 (m : Int) (t : Tx) : Int × Tx := if t.2 = true ∨ getE t.1 0 ≠ 0 ∨ m < getN t.1 0 then (0, badT) else (getN t.1 0, t.1.drop (getA t.1 0).toNat, false)
def sgd1 : Nat → List Int → Tx → List Int × Tx
  | 0, O, t => (O, t)
  | k + 1, O, t => if t.2 = true ∨ getE t.1 0 ≠ 0 then ([], badT) else sgd1 k (O ++ [zagI (getN t.1 0)]) (t.1.drop (getA t.1 0).toNat, false)
def prt1 (n : Int) (t : Tx) : List Int × Tx := if t.2 = true ∨ (t.1.length : Int) < n then ([], badT) else (t.1.take n.toNat, t.1.drop n.toNat, false)
/-- The signs. -/
def neg1 (s : SentV) (t : Tx) : SentV × Tx :=
  ({ s with neg := bitV 1 s.dim (prt1 ((s.dim + 7) / 8) t).1 }, (prt1 ((s.dim + 7) / 8) t).2.1, (prt1 ((s.dim + 7) / 8) t).2.2 || (bitE 1 s.dim (prt1 ((s.dim + 7) / 8) t).1 != 0))
/-- Levels, and the signs. -/
def lev1 (s : SentV) (t : Tx) : SentV × Tx :=
  if s.wide < 1 ∨ 8 < s.wide then (s, badT) else
  if (prt1 ((s.wide * s.dim + 7) / 8) t).2.2 = true ∨ bitE s.wide s.dim (prt1 ((s.wide * s.dim + 7) / 8) t).1 ≠ 0 then (s, badT) else
  neg1 { s with lev := uwvV s.wide s.dim (prt1 ((s.wide * s.dim + 7) / 8) t).1 } (prt1 ((s.wide * s.dim + 7) / 8) t).2
def dns1 (dim : Int) (t : Tx) : SentV × Tx := (⟨0, dim, [], (sgd1 dim.toNat [] t).1, 0, 0, [], []⟩, (sgd1 dim.toNat [] t).2)
def top1 (dim : Int) (t : Tx) : SentV × Tx :=
  if (gixR dim t.1 0).2.2 ≠ 0 then (⟨1, dim, [], [], 0, 0, [], []⟩, badT) else
  (⟨1, dim, (gixR dim t.1 0).1, (sgd1 (gixR dim t.1 0).1.length [] (t.1.drop (gixR dim t.1 0).2.1.toNat, false)).1, 0, 0, [], []⟩, (sgd1 (gixR dim t.1 0).1.length [] (t.1.drop (gixR dim t.1 0).2.1.toNat, false)).2)
def top63 : Int := 9223372036854775807
/-- What stands behind the scheme and the dimension. -/
def rest1 (sch dim : Int) (t : Tx) : SentV × Tx :=
  if sch = 1 then top1 dim t else if sch = 0 then dns1 dim t
  else if sch = 2 then lev1 ⟨2, dim, [], [], (num1 top63 t).1, (by1 (num1 top63 t).2).1, [], []⟩ (by1 (num1 top63 t).2).2
  else neg1 ⟨sch, dim, [], [], (num1 top63 t).1, 0, [], []⟩ (num1 top63 t).2
def sent1 (t : Tx) : SentV × Tx :=
  if (num1 4096 (by1 t).2).2.2 = true ∨ (num1 4096 (by1 t).2).1 = 0 then (⟨(by1 t).1, (num1 4096 (by1 t).2).1, [], [], 0, 0, [], []⟩, badT)
  else rest1 (by1 t).1 (num1 4096 (by1 t).2).1 (num1 4096 (by1 t).2).2
def fram1 (knd frm stp : Int) (t : Tx) : FrameV × Tx := (⟨knd, frm, stp, (if knd = 1 then sent1 t else (zeroS, t)).1⟩, (if knd = 1 then sent1 t else (zeroS, t)).2)
def endR (ver : Int) (r : FrameV × Tx) : FrameV × Int := if r.2.2 = true ∨ r.2.1 ≠ [] ∨ ver ≠ 1 ∨ chkF r.1 ≠ 0 then (zeroF, 6) else (r.1, 0)
def read1 (o : List Int) : FrameV × Int :=
  endR (by1 (o, false)).1 (fram1 (by1 (by1 (o, false)).2).1 (num1 63 (by1 (by1 (o, false)).2).2).1 (num1 1073741824 (num1 63 (by1 (by1 (o, false)).2).2).2).1 (num1 1073741824 (num1 63 (by1 (by1 (o, false)).2).2).2).2)
def rdR (b : List Int) : FrameV × Int := if openE b ≠ 0 then (zeroF, openE b) else read1 (openV b)
/-- How great its numbers are. -/
def wfS (s : SentV) : Prop := I64 s.sch ∧ I64 s.dim ∧ (∀ x ∈ s.L, I64 x) ∧ (∀ x ∈ s.V, I64 x) ∧ I64 s.scale ∧ I64 s.wide ∧ U64s s.lev
def wfF (f : FrameV) : Prop := I64 f.knd ∧ I64 f.frm ∧ I64 f.stp ∧ wfS f.S
theorem wf_zeroS : wfS zeroS := by
  refine ⟨by decide, by decide, ?_, ?_, by decide, by decide, ?_⟩ <;> intro x hx <;> simp [zeroS] at hx
/-- Reading what was written. -/
theorem by1_put (x : Int) (r : List Int) : by1 (x :: r, false) = (x, r, false) := by unfold by1; simp
theorem get_here {n : Int} (h : U64 n) (r : List Int) : getN (lebI n ++ r) 0 = n ∧ getE (lebI n ++ r) 0 = 0 ∧ getA (lebI n ++ r) 0 = (lebI n).length := by
  have := get_at h [] r (b := lebI n ++ r) rfl
  simpa using this
theorem num1_put {n m : Int} (h : U64 n) (hm : n ≤ m) (r : List Int) : num1 m (lebI n ++ r, false) = (n, r, false) := by
  obtain ⟨h1, h2, h3⟩ := get_here h r
  unfold num1
  simp only [h1, h2, h3]
  rw [if_neg (by simp; omega)]
  rw [Int.toNat_natCast, List.drop_left]
theorem sgnd_cons (x : Int) (l : List Int) : sgnd (x :: l) = lebI (zigI x) ++ sgnd l := by unfold sgnd; rw [List.map_cons, encs_cons]
theorem sgd1_put : ∀ (l O r : List Int), (∀ x ∈ l, I64 x) → sgd1 l.length O (sgnd l ++ r, false) = (O ++ l, r, false)
  | [], O, r, _ => by simp [sgd1, sgnd, encs]
  | x :: l, O, r, h => by
    rw [List.length_cons, sgd1, sgnd_cons, List.append_assoc]
    obtain ⟨h1, h2, h3⟩ := get_here (zig_u64 (h x (by simp))) (sgnd l ++ r)
    simp only [h1, h2, h3]
    rw [if_neg (by simp), zag_zig, Int.toNat_natCast, List.drop_left, sgd1_put l _ r (fun y hy => h y (by simp [hy])), List.append_assoc]
    rfl
theorem prt1_put {n : Int} {p : List Int} (h : (p.length : Int) = n) (r : List Int) : prt1 n (p ++ r, false) = (p, r, false) := by
  unfold prt1
  rw [if_neg (by simp; omega)]
  have : n.toNat = p.length := by omega
  simp only [this, List.take_left, List.drop_left]
theorem gix_here {dim : Int} {l : List Int} (h : chkE dim l = 0) (r : List Int) : gixR dim (pixV dim l ++ r) 0 = (l, ((pixV dim l).length : Int), 0) := by
  have := gix_put (ahead := []) (behind := r) (b := pixV dim l ++ r) h rfl
  simpa using this
theorem sgnV_len {l : List Bool} (h : l.length ≤ 4096) : (sgnV l).length = (l.length + 7) / 8 := by
  unfold sgnV; rw [if_neg (by omega), pkL_len]
theorem neg1_put {sch dim scale wide : Int} {L V lev : List Int} {neg : List Bool} (h : (neg.length : Int) = dim) (h4 : dim ≤ 4096) (r : List Int) : neg1 ⟨sch, dim, L, V, scale, wide, lev, []⟩ (sgnV neg ++ r, false) = (⟨sch, dim, L, V, scale, wide, lev, neg⟩, r, false) := by
  have hl := sgnV_len (l := neg) (by omega)
  have hr := read_sgn (l := neg) (by omega)
  have hp : prt1 ((dim + 7) / 8) (sgnV neg ++ r, false) = (sgnV neg, r, false) := prt1_put (by rw [hl]; omega) r
  rw [h] at hr
  unfold neg1
  simp only [hp, hr.1, hr.2]
  rfl
theorem lev1_put {sch dim scale wide : Int} {L V lev : List Int} {neg : List Bool} (hw1 : 1 ≤ wide) (hw8 : wide ≤ 8) (hl : (lev.length : Int) = dim) (hf : fitsB wide lev = true) (ul : U64s lev) (h : (neg.length : Int) = dim) (h4 : dim ≤ 4096) (r : List Int) :
    lev1 ⟨sch, dim, L, V, scale, wide, [], []⟩ (wevV wide lev ++ (sgnV neg ++ r), false) = (⟨sch, dim, L, V, scale, wide, lev, neg⟩, r, false) := by
  have hb : bysE wide lev.length = 0 := by unfold bysE; rw [if_neg (by omega), if_neg (by omega)]
  have hm : mayE wide lev = 0 := by unfold mayE; rw [if_pos hb, if_pos hf]
  have hwl := (may_same wide lev).2 hm
  have hu := uwv_wev hm ul
  have hn : ((wevV wide lev).length : Int) = (wide * dim + 7) / 8 := by
    rw [hwl.2, ← hl]
    obtain ⟨k, rfl⟩ := Int.eq_ofNat_of_zero_le (show 0 ≤ wide by omega)
    rw [Int.toNat_natCast]
    omega
  have hp : prt1 ((wide * dim + 7) / 8) (wevV wide lev ++ (sgnV neg ++ r), false) = (wevV wide lev, sgnV neg ++ r, false) := prt1_put hn _
  rw [hl] at hu
  unfold lev1
  simp only [hp, hu.1, hu.2]
  rw [if_neg (by omega), if_neg (by simp)]
  exact neg1_put h h4 r
theorem sent1_put {s : SentV} (hm : mayP s) (hw : wfS s) (r : List Int) : sent1 (bodyL s ++ r, false) = (s, r, false) := by
  obtain ⟨sch, dim, L, V, scale, wide, lev, neg⟩ := s
  obtain ⟨hd1, hd4, hc⟩ := hm
  obtain ⟨w1, w2, w3, w4, w5, w6, w7⟩ := hw
  simp only at hd1 hd4 hc w1 w2 w3 w4 w5 w6 w7
  have hn := fun R => num1_put (n := dim) (m := 4096) (by unfold U64; omega) hd4 R
  have hsc := fun (h : 0 ≤ scale) R => num1_put (n := scale) (m := top63) (by unfold I64 at w5; unfold U64; omega) (by unfold I64 at w5; unfold top63; omega) R
  have key : ∀ T, rest1 sch dim (T ++ r, false) = (⟨sch, dim, L, V, scale, wide, lev, neg⟩, r, false) → sent1 (sch :: (lebI dim ++ T) ++ r, false) = (⟨sch, dim, L, V, scale, wide, lev, neg⟩, r, false) := fun T hT => by
    rw [List.cons_append, List.append_assoc]
    unfold sent1
    simp only [by1_put, hn]
    rw [if_neg (by simp; omega)]
    exact hT
  refine key _ ?_
  unfold tailL rest1
  simp only
  rcases hc with ⟨rfl, rfl, h2, rfl, rfl, rfl, rfl⟩ | ⟨rfl, h1, h2, rfl, rfl, rfl, rfl⟩ | ⟨rfl, h1, h2, h3, h4, rfl, rfl, h7, h8⟩ | ⟨rfl, rfl, rfl, rfl, rfl, h5, h6⟩
  · rw [if_neg (by decide), if_pos rfl, if_pos rfl]
    unfold dns1
    have hn : dim.toNat = V.length := by omega
    rw [hn, sgd1_put _ _ _ w4]
    rfl
  · rw [if_pos rfl, if_neg (by decide), if_pos rfl]
    unfold top1
    simp only [List.append_assoc, gix_here h1]
    rw [if_neg (by simp), Int.toNat_natCast, List.drop_left, ← h2, sgd1_put _ _ _ w4]
    rfl
  · rw [if_neg (by decide), if_neg (by decide), if_pos rfl, if_neg (by decide), if_neg (by decide), if_pos rfl]
    simp only [List.append_assoc, hsc h7, List.cons_append, by1_put]
    exact lev1_put h1 h2 h3 h4 w7 h8 hd4 r
  · rw [if_neg (by decide), if_neg (by decide), if_neg (by decide), if_neg (by decide), if_neg (by decide), if_neg (by decide)]
    simp only [List.append_assoc, hsc h5, List.nil_append]
    exact neg1_put h6 hd4 r
theorem read1_put {f : FrameV} (hc : chkF f = 0) (hw : wfF f) : read1 (textL f) = (f, 0) := by
  have hp := chkF_ok.1 hc
  obtain ⟨knd, frm, stp, S⟩ := f
  obtain ⟨h1, h2, h3, h4, h5⟩ := hp
  simp only at h1 h2 h3 h4 h5
  have hf := fun R => num1_put (n := frm) (m := 63) (by unfold U64; omega) (by omega) R
  have hs := fun R => num1_put (n := stp) (m := 1073741824) (by unfold U64; omega) (by omega) R
  have he : endR 1 (⟨knd, frm, stp, S⟩, ([], false)) = (⟨knd, frm, stp, S⟩, 0) := by
    unfold endR
    rw [if_neg]
    simp [hc]
  unfold read1 textL
  simp only [by1_put, hf, hs]
  rcases h5 with ⟨rfl, hm⟩ | ⟨rfl, hz⟩
  · have hb := sent1_put (of_decide_eq_true hm) hw.2.2.2 []
    rw [List.append_nil] at hb
    unfold fram1
    rw [if_pos rfl, if_pos rfl, hb]
    exact he
  · have e2 := sameS_iff.1 hz
    subst e2
    unfold fram1
    rw [if_neg (by decide), if_neg (by decide)]
    exact he
/-- Writing what was read. -/
theorem by1_back {t r : List Int} {b : Bool} {x : Int} (h : by1 (t, b) = (x, r, false)) : b = false ∧ t = x :: r := by
  unfold by1 at h
  split at h
  · simp [badT] at h
  · rename_i hn
    cases b with
    | true => simp at hn
    | false =>
      cases t with
      | nil => simp at hn
      | cons y t =>
        simp only [Prod.mk.injEq, List.headD_cons, List.tail_cons] at h
        obtain ⟨rfl, rfl, _⟩ := h
        exact ⟨rfl, rfl⟩
theorem get_back {b : List Int} (ub : U8s b) (h : getE b 0 = 0) : U64 (getN b 0) ∧ b = lebI (getN b 0) ++ b.drop (getA b 0).toNat := by
  obtain ⟨_, h2, j, hj, ha, he⟩ := get_ok ub h
  refine ⟨h2, ?_⟩
  simp only [Int.toNat_zero, Nat.zero_add, List.drop_zero] at ha he hj
  rw [← he, ha, Int.toNat_natCast, List.take_append_drop]
theorem num1_back {m n : Int} {t r : List Int} {b : Bool} (ut : U8s t) (h : num1 m (t, b) = (n, r, false)) : b = false ∧ 0 ≤ n ∧ n ≤ m ∧ U64 n ∧ t = lebI n ++ r := by
  unfold num1 at h
  split at h
  · simp [badT] at h
  · rename_i hn
    have h1 : b = false := by cases b with
      | true => simp at hn
      | false => rfl
    have h2 : getE t 0 = 0 := by
      by_cases e : getE t 0 = 0
      · exact e
      · simp [e] at hn
    have h3 : ¬ m < getN t 0 := fun e => hn (Or.inr (Or.inr e))
    obtain ⟨hu, hb⟩ := get_back ut h2
    simp only [Prod.mk.injEq] at h
    obtain ⟨rfl, rfl, _⟩ := h
    exact ⟨h1, hu.1, by omega, hu, hb⟩
theorem sgd1_back : ∀ (k : Nat) (O t V r : List Int) (b : Bool), U8s t → sgd1 k O (t, b) = (V, r, false) → ∃ l : List Int, V = O ++ l ∧ l.length = k ∧ (∀ x ∈ l, I64 x) ∧ (b = false → t = sgnd l ++ r) ∧ (0 < k → b = false) ∧ (k = 0 → b = false)
  | 0, O, t, V, r, b, _, h => by
    rw [sgd1] at h
    simp only [Prod.mk.injEq] at h
    obtain ⟨rfl, rfl, rfl⟩ := h
    exact ⟨[], by simp, rfl, by simp, fun _ => by simp [sgnd, encs], fun h => by omega, fun _ => rfl⟩
  | k + 1, O, t, V, r, b, ut, h => by
    rw [sgd1] at h
    split at h
    · simp [badT] at h
    · rename_i hn
      have h1 : b = false := by cases b with
        | true => simp at hn
        | false => rfl
      have h2 : getE t 0 = 0 := by
        by_cases e : getE t 0 = 0
        · exact e
        · simp [e] at hn
      obtain ⟨hu, hb⟩ := get_back ut h2
      have hud : U8s (t.drop (getA t 0).toNat) := ut.drop _
      obtain ⟨l, e1, e2, e3, e4, e5, e6⟩ := sgd1_back k _ _ V r false hud h
      refine ⟨zagI (getN t 0) :: l, by rw [e1, List.append_assoc]; rfl, by rw [List.length_cons, e2], ?_, fun _ => ?_, fun _ => h1, fun e => by omega⟩
      · intro x hx
        rcases List.mem_cons.1 hx with rfl | hx
        · exact zag_i64 hu
        · exact e3 x hx
      · rw [sgnd_cons, zig_zag hu.1, List.append_assoc, ← e4 rfl]
        exact hb
theorem prt1_back {n : Int} {t p r : List Int} {b : Bool} (hn : 0 ≤ n) (h : prt1 n (t, b) = (p, r, false)) : b = false ∧ (p.length : Int) = n ∧ t = p ++ r := by
  unfold prt1 at h
  split at h
  · simp [badT] at h
  · rename_i hx
    have h1 : b = false := by cases b with
      | true => simp at hx
      | false => rfl
    have h2 : ¬ (t.length : Int) < n := fun e => hx (Or.inr e)
    simp only [Prod.mk.injEq] at h
    obtain ⟨rfl, rfl, _⟩ := h
    refine ⟨h1, ?_, (List.take_append_drop _ _).symm⟩
    rw [List.length_take]
    omega
theorem sgn_back {m : Int} {b : List Int} (ub : U8s b) (h : bitE 1 m b = 0) : sgnV (bitV 1 m b) = b ∧ ((bitV 1 m b).length : Int) = m := by
  obtain ⟨h1, h2, h3⟩ := bitE_ok h
  have hb := bys_ok h1
  obtain ⟨k, rfl⟩ := Int.eq_ofNat_of_zero_le hb.2.1
  have hl : bitV 1 k b = mkB k (fB b) := by
    unfold bitV
    rw [if_pos h, show (1 : Int).toNat = 1 from rfl, Int.toNat_natCast, Nat.one_mul]
  rw [hl, mkB_len]
  refine ⟨?_, rfl⟩
  unfold sgnV
  rw [mkB_len, if_neg (by omega)]
  rw [show (1 : Int).toNat = 1 from rfl, Int.toNat_natCast, Nat.one_mul] at h3
  have h2' : b.length = (k + 7) / 8 := by
    have := bys_nat (w := 1) (m := k) h1
    rw [show ((1 : Nat) : Int) = 1 from rfl] at this
    omega
  rw [pkL_congr (g := fB b) (fun p hp => by rw [List.getD_eq_getElem?_getD, mkB_at _ hp]; rfl)]
  exact pkL_fB ub h2' h3
theorem neg1_back {sch dim scale wide : Int} {L V lev r t : List Int} {n0 : List Bool} {b : Bool} {s : SentV} (ut : U8s t) (hd : 1 ≤ dim) (h : neg1 ⟨sch, dim, L, V, scale, wide, lev, n0⟩ (t, b) = (s, r, false)) :
    ∃ neg : List Bool, s = ⟨sch, dim, L, V, scale, wide, lev, neg⟩ ∧ b = false ∧ (neg.length : Int) = dim ∧ t = sgnV neg ++ r := by
  unfold neg1 at h
  simp only at h
  obtain ⟨p, u, hp⟩ : ∃ p u, prt1 ((dim + 7) / 8) (t, b) = (p, u) := ⟨_, _, rfl⟩
  obtain ⟨u1, u2⟩ := u
  rw [hp] at h
  simp only [Prod.mk.injEq, Bool.or_eq_false_iff, bne_eq_false_iff_eq] at h
  obtain ⟨rfl, rfl, rfl, he⟩ := h
  obtain ⟨hb, hl, rfl⟩ := prt1_back (by omega) hp
  have up : U8s p := fun x hx => ut x (by simp [hx])
  obtain ⟨h1, h2⟩ := sgn_back up he
  exact ⟨_, rfl, hb, h2, by rw [h1]⟩
theorem lev1_back {sch dim scale wide : Int} {L V r t : List Int} {b : Bool} {s : SentV} (ut : U8s t) (hd : 1 ≤ dim) (h : lev1 ⟨sch, dim, L, V, scale, wide, [], []⟩ (t, b) = (s, r, false)) :
    ∃ (lev : List Int) (neg : List Bool), s = ⟨sch, dim, L, V, scale, wide, lev, neg⟩ ∧ b = false ∧ 1 ≤ wide ∧ wide ≤ 8 ∧ (lev.length : Int) = dim ∧ U64s lev ∧ (neg.length : Int) = dim ∧ t = wevV wide lev ++ (sgnV neg ++ r) := by
  unfold lev1 at h
  simp only at h
  split at h
  · simp [badT] at h
  · rename_i hw
    obtain ⟨p, u, hp⟩ : ∃ p u, prt1 ((wide * dim + 7) / 8) (t, b) = (p, u) := ⟨_, _, rfl⟩
    obtain ⟨u1, u2⟩ := u
    rw [hp] at h
    simp only at h
    split at h
    · simp [badT] at h
    · rename_i he
      have hu2 : u2 = false := by cases u2 with
        | true => simp at he
        | false => rfl
      subst hu2
      have hbe : bitE wide dim p = 0 := by
        by_cases e : bitE wide dim p = 0
        · exact e
        · simp [e] at he
      have hn : 0 ≤ (wide * dim + 7) / 8 := by
        have := Int.mul_nonneg (show 0 ≤ wide by omega) (show 0 ≤ dim by omega)
        omega
      obtain ⟨hb, hl, rfl⟩ := prt1_back hn hp
      have up : U8s p := fun x hx => ut x (by simp [hx])
      have uu : U8s u1 := fun x hx => ut x (by simp [hx])
      obtain ⟨neg, rfl, _, hneg, rfl⟩ := neg1_back uu hd h
      have hwv := (wev_uwv up hbe).2
      exact ⟨_, neg, rfl, hb, by omega, by omega, uwv_len hbe, uwvV_u64 _, hneg, by rw [hwv]⟩
theorem rest1_back {sch dim : Int} {t r : List Int} {s : SentV} (ut : U8s t) (hd : 1 ≤ dim) (hd4 : dim ≤ 4096) (hs : I64 sch) (h : rest1 sch dim (t, false) = (s, r, false)) :
    s.sch = sch ∧ s.dim = dim ∧ wfS s ∧ t = tailL s ++ r := by
  have hdI : I64 dim := by unfold I64; omega
  have nlI : ∀ x ∈ ([] : List Int), I64 x := by intro x hx; simp at hx
  have nlU : U64s [] := by intro x hx; simp at hx
  have h0I : I64 0 := by decide
  unfold rest1 at h
  split at h
  · rename_i e
    subst e
    unfold top1 at h
    split at h
    · simp [badT] at h
    · rename_i he
      obtain ⟨l, a, g, hg⟩ : ∃ l a g, gixR dim t 0 = (l, a, g) := ⟨_, _, _, rfl⟩
      simp only [hg, ne_eq, Decidable.not_not] at he h
      subst he
      obtain ⟨hc, j, rfl, hj, hv⟩ := gix_back ut hg
      rw [Int.toNat_natCast] at h
      obtain ⟨V, u, hV⟩ : ∃ V u, sgd1 l.length [] (t.drop j, false) = (V, u) := ⟨_, _, rfl⟩
      obtain ⟨u1, u2⟩ := u
      rw [hV] at h
      simp only [Prod.mk.injEq] at h
      obtain ⟨rfl, rfl, rfl⟩ := h
      obtain ⟨l2, e1, e2, e3, e4, _, _⟩ := sgd1_back _ _ _ _ _ _ (ut.drop j) hV
      rw [List.nil_append] at e1
      subst e1
      have hp := (chk_ok.1 hc).2.2.2
      refine ⟨rfl, rfl, ⟨hs, hdI, fun x hx => ?_, e3, h0I, h0I, nlU⟩, ?_⟩
      · have := hp x hx; unfold I64; omega
      · show t = (if (1 : Int) = 0 then _ else if (1 : Int) = 1 then pixV dim l ++ sgnd V else _) ++ u1
        rw [if_neg (by decide), if_pos rfl, hv, List.append_assoc, ← e4 rfl, List.take_append_drop]
  · split at h
    · rename_i e
      subst e
      unfold dns1 at h
      obtain ⟨V, u, hV⟩ : ∃ V u, sgd1 dim.toNat [] (t, false) = (V, u) := ⟨_, _, rfl⟩
      obtain ⟨u1, u2⟩ := u
      rw [hV] at h
      simp only [Prod.mk.injEq] at h
      obtain ⟨rfl, rfl, rfl⟩ := h
      obtain ⟨l2, e1, e2, e3, e4, _, _⟩ := sgd1_back _ _ _ _ _ _ ut hV
      rw [List.nil_append] at e1
      subst e1
      refine ⟨rfl, rfl, ⟨hs, hdI, nlI, e3, h0I, h0I, nlU⟩, ?_⟩
      show t = (if (0 : Int) = 0 then sgnd V else _) ++ u1
      rw [if_pos rfl]
      exact e4 rfl
    · obtain ⟨n, u, hN⟩ : ∃ n u, num1 top63 (t, false) = (n, u) := ⟨_, _, rfl⟩
      obtain ⟨u1, u2⟩ := u
      rw [hN] at h
      split at h
      · rename_i e
        subst e
        obtain ⟨x, v, hX⟩ : ∃ x v, by1 (u1, u2) = (x, v) := ⟨_, _, rfl⟩
        obtain ⟨v1, v2⟩ := v
        simp only [hX] at h
        have uv : U8s v1 := by
          unfold by1 at hX
          split at hX
          · simp [badT] at hX
            obtain ⟨_, rfl, _⟩ := hX
            intro x hx; simp at hx
          · simp only [Prod.mk.injEq] at hX
            obtain ⟨_, rfl, _⟩ := hX
            intro x hx
            unfold num1 at hN
            split at hN
            · simp [badT] at hN
              obtain ⟨_, rfl, _⟩ := hN
              simp at hx
            · simp only [Prod.mk.injEq] at hN
              obtain ⟨_, rfl, _⟩ := hN
              exact (ut.drop _) x (List.mem_of_mem_tail hx)
        obtain ⟨lev, neg, rfl, rfl, w1, w8, hl, hu, hn, rfl⟩ := lev1_back uv hd h
        obtain ⟨rfl, rfl⟩ := by1_back hX
        obtain ⟨_, n0, n1, nu, rfl⟩ := num1_back ut hN
        unfold top63 at n1
        refine ⟨rfl, rfl, ⟨hs, hdI, nlI, nlI, show I64 n by unfold I64; omega, show I64 x by unfold I64; omega, hu⟩, ?_⟩
        show _ = (if (2 : Int) = 0 then _ else if (2 : Int) = 1 then _ else lebI n ++ ((if (2 : Int) = 2 then x :: wevV x lev else []) ++ sgnV neg)) ++ r
        rw [if_neg (by decide), if_neg (by decide), if_pos rfl]
        simp
      · rename_i e1 e0 e2
        have uu : U8s u1 := by
          unfold num1 at hN
          split at hN
          · simp [badT] at hN
            obtain ⟨_, rfl, _⟩ := hN
            intro x hx; simp at hx
          · simp only [Prod.mk.injEq] at hN
            obtain ⟨_, rfl, _⟩ := hN
            exact ut.drop _
        obtain ⟨neg, rfl, rfl, hn, rfl⟩ := neg1_back uu hd h
        obtain ⟨_, n0, n1, nu, rfl⟩ := num1_back ut hN
        unfold top63 at n1
        refine ⟨rfl, rfl, ⟨hs, hdI, nlI, nlI, show I64 n by unfold I64; omega, h0I, nlU⟩, ?_⟩
        show _ = (if sch = 0 then _ else if sch = 1 then _ else lebI n ++ ((if sch = 2 then _ else []) ++ sgnV neg)) ++ r
        rw [if_neg e0, if_neg e1, if_neg e2]
        simp
theorem sent1_back {t r : List Int} {b : Bool} {s : SentV} (ut : U8s t) (h : sent1 (t, b) = (s, r, false)) : wfS s ∧ b = false ∧ t = bodyL s ++ r := by
  unfold sent1 at h
  obtain ⟨x, u, hX⟩ : ∃ x u, by1 (t, b) = (x, u) := ⟨_, _, rfl⟩
  obtain ⟨u1, u2⟩ := u
  rw [hX] at h
  obtain ⟨n, v, hN⟩ : ∃ n v, num1 4096 (u1, u2) = (n, v) := ⟨_, _, rfl⟩
  obtain ⟨v1, v2⟩ := v
  simp only [hN] at h
  split at h
  · simp [badT] at h
  · rename_i hne
    have hv2 : v2 = false := by cases v2 with
      | true => simp at hne
      | false => rfl
    subst hv2
    have hn0 : n ≠ 0 := fun e => hne (Or.inr e)
    have uu : U8s u1 := by
      unfold by1 at hX
      split at hX
      · simp [badT] at hX
        obtain ⟨_, rfl, _⟩ := hX
        intro x hx; simp at hx
      · simp only [Prod.mk.injEq] at hX
        obtain ⟨_, rfl, _⟩ := hX
        exact fun x hx => ut x (List.mem_of_mem_tail hx)
    obtain ⟨rfl, h0, h4, hu, rfl⟩ := num1_back uu hN
    obtain ⟨rfl, rfl⟩ := by1_back hX
    have hx := ut x (by simp)
    have uv : U8s v1 := fun y hy => uu y (by simp [hy])
    obtain ⟨e1, e2, hw, rfl⟩ := rest1_back uv (by omega) h4 (by unfold I64; omega) h
    refine ⟨hw, rfl, ?_⟩
    unfold bodyL
    rw [e1, e2]
    simp
theorem read1_back {o : List Int} {f : FrameV} (uo : U8s o) (h : read1 o = (f, 0)) : chkF f = 0 ∧ wfF f ∧ textL f = o := by
  unfold read1 endR at h
  obtain ⟨ver, u, hV⟩ : ∃ x u, by1 (o, false) = (x, u) := ⟨_, _, rfl⟩
  obtain ⟨u1, u2⟩ := u
  obtain ⟨knd, v, hK⟩ : ∃ x v, by1 (u1, u2) = (x, v) := ⟨_, _, rfl⟩
  obtain ⟨v1, v2⟩ := v
  obtain ⟨frm, x, hF⟩ : ∃ n x, num1 63 (v1, v2) = (n, x) := ⟨_, _, rfl⟩
  obtain ⟨x1, x2⟩ := x
  obtain ⟨stp, y, hS⟩ : ∃ n y, num1 1073741824 (x1, x2) = (n, y) := ⟨_, _, rfl⟩
  obtain ⟨y1, y2⟩ := y
  simp only [hV, hK, hF, hS] at h
  split at h
  · simp at h
  · rename_i hne
    simp only [Prod.mk.injEq, and_true] at h
    rw [h] at hne
    have hc : chkF f = 0 := by
      by_cases e : chkF f = 0
      · exact e
      · exact absurd (Or.inr (Or.inr (Or.inr e))) hne
    have hv1 : ver = 1 := by
      by_cases e : ver = 1
      · exact e
      · exact absurd (Or.inr (Or.inr (Or.inl e))) hne
    have hby : ∀ {t : List Int} {b : Bool} {x : Int} {u1 : List Int} {u2 : Bool}, U8s t → by1 (t, b) = (x, u1, u2) → U8s u1 := fun {t b x u1 u2} ut hX => by
      unfold by1 at hX
      split at hX
      · simp [badT] at hX
        obtain ⟨_, rfl, _⟩ := hX
        intro x hx; simp at hx
      · simp only [Prod.mk.injEq] at hX
        obtain ⟨_, rfl, _⟩ := hX
        exact fun x hx => ut x (List.mem_of_mem_tail hx)
    have hnu : ∀ {m : Int} {t : List Int} {b : Bool} {x : Int} {u1 : List Int} {u2 : Bool}, U8s t → num1 m (t, b) = (x, u1, u2) → U8s u1 := fun {m t b x u1 u2} ut hX => by
      unfold num1 at hX
      split at hX
      · simp [badT] at hX
        obtain ⟨_, rfl, _⟩ := hX
        intro x hx; simp at hx
      · simp only [Prod.mk.injEq] at hX
        obtain ⟨_, rfl, _⟩ := hX
        exact ut.drop _
    have a1 := hby uo hV
    have a2 := hby a1 hK
    have a3 := hnu a2 hF
    have a4 := hnu a3 hS
    have key : ∀ {S : SentV} {z : Tx}, (if knd = 1 then sent1 (y1, y2) else (zeroS, (y1, y2))) = (S, z) → z.2 = false → z.1 = [] → wfS S ∧ y2 = false ∧ y1 = (if knd = 1 then bodyL S else []) := fun {S z} hz h1 h2 => by
      obtain ⟨z1, z2⟩ := z
      simp only at h1 h2
      subst h1 h2
      by_cases e : knd = 1
      · rw [if_pos e] at hz ⊢
        have := sent1_back a4 hz
        rw [List.append_nil] at this
        exact this
      · rw [if_neg e] at hz ⊢
        simp only [Prod.mk.injEq] at hz
        obtain ⟨rfl, rfl, rfl⟩ := hz
        exact ⟨wf_zeroS, rfl, rfl⟩
    obtain ⟨S, z, hz⟩ : ∃ S z, (if knd = 1 then sent1 (y1, y2) else (zeroS, (y1, y2))) = (S, z) := ⟨_, _, rfl⟩
    have hz1 : z.2 = false := by
      cases hz2 : z.2 with
      | false => rfl
      | true => exact absurd (Or.inl (by unfold fram1; rw [hz]; exact hz2)) hne
    have hz3 : z.1 = [] := by
      by_cases e : z.1 = []
      · exact e
      · exact absurd (Or.inr (Or.inl (by unfold fram1; rw [hz]; exact e))) hne
    obtain ⟨hw, rfl, hy⟩ := key hz hz1 hz3
    obtain ⟨rfl, s0, s1, su, rfl⟩ := num1_back a3 hS
    obtain ⟨rfl, f0, f1, fu, rfl⟩ := num1_back a2 hF
    obtain ⟨rfl, rfl⟩ := by1_back hK
    obtain ⟨_, rfl⟩ := by1_back hV
    unfold fram1 at h
    rw [hz] at h
    simp only at h
    subst h
    have hk := a1 knd (by simp)
    refine ⟨hc, ⟨show I64 knd by unfold I64; omega, show I64 frm by unfold I64; omega, show I64 stp by unfold I64; omega, hw⟩, ?_⟩
    unfold textL
    simp only
    rw [← hy, hv1]
theorem read1_bad {o : List Int} (h : (read1 o).2 ≠ 0) : read1 o = (zeroF, 6) := by
  unfold read1 endR at h ⊢
  split
  · rfl
  · rename_i hn
    rw [if_neg hn] at h
    exact absurd rfl h
end Go.Proofs.YtjkhdfncahhnoaaGreat
/- Lists that are the same, by the document (thrumref06). -/
namespace Go.Proofs.YtjkhdfncahhnoaaGreat
open Go.RowKit
set_option maxHeartbeats 400000
set_option maxRecDepth 100000
set_option linter.unusedVariables false
theorem info_int : (Tryz.prog.info? 3).map (fun i => (i.zero, i.size, i.bytes)) = some (some (.int .i64 0), 1, 8) := by kernel_rfl
theorem cells_int : Tryz.prog.cellsOf 3 = 1 := by kernel_rfl
theorem cells_ints : Tryz.prog.cellsOf 25 = 1 := by kernel_rfl
theorem drewN_two (w : World) (n m : Nat) : ∃ k, (w.drewN n).drewN m = w.drewN k := ⟨n + m, by simp⟩
theorem ref_Equal {A B : Option Addr} {c d : Nat} (xs ys : List Int) (hx : xs.length ≤ 9223372036854775807) (hy : ys.length ≤ 9223372036854775807) (w : World) {L M : Nat}
    (ra : Rd (Value.int .i64) w L A xs) (rb : Rd (Value.int .i64) w M B ys) :
    Calls Tryz.prog 14 #[.slice A xs.length c, .slice B ys.length d] w fun e w' => e = .returned (.bool (eqB xs ys)) ∧ ∃ n, w' = w.drewN n := by
  by_cases hl : xs.length = ys.length
  · have HA := hid ra
    have HB := hid rb
    clear ra rb
    have h1 : ((xs.length : Int) != (ys.length : Int)) = false := by simp; omega
    have h2 : (xs.length != ys.length) = false := by simp; omega
    have HL := hid hl
    clear hl
    go_enter Tryz.func14, Tryz.ntmps14
    go_wp2_with fail
    clear h1 h2
    go_loopw [13] (fun i wr => ∃ k : Nat, k ≤ xs.length ∧ i = .int .i64 k ∧ xs.take k = ys.take k ∧ ∃ n, wr = w.drewN n) (fun i _ => xs.length - (intOf i).toNat)
    case atStart => exact ⟨0, by omega, rfl, rfl, 0, rfl⟩
    case round =>
      obtain ⟨k, hk, rfl, ht, n, rfl⟩ := hrel
      have HT := hid ht
      clear ht
      by_cases hlt : k < xs.length
      · have hlt2 : k < ys.length := by have := HL.out; omega
        obtain ⟨b1, o1, x, rfl, l1, ex, c1⟩ := HA.out.at_ hlt
        obtain ⟨b2, o2, y, rfl, l2, ey, c2⟩ := HB.out.at_ hlt2
        have EX := hid ex
        have EY := hid ey
        clear ex ey
        by_cases e : x = y
        · have e' : (x != y) = false := by simpa using e
          have E := hid e
          clear e
          go_wp2_with fail
          go_quiet (fail)
          go_wp2_with fail
          go_roundw
          case rel => exact ⟨k + 1, by omega, by go_num, take_step HT.out EX.out EY.out E.out, _, rfl⟩
          case measure => simp [intOf]; omega
        · have e' : (x != y) = true := by simpa using e
          go_wp2_with fail
          go_quiet (fail)
          go_wp2_with fail
          go_ret
          rw [eqB_no EX.out EY.out e]
          exact ⟨rfl, drewN_two _ _ _⟩
      · have hke : k = xs.length := by omega
        have HK := hid hke
        clear hke
        go_wp2_with fail
        go_ret
        rw [eqB_yes HT.out HK.out HL.out]
        exact ⟨rfl, _, rfl⟩
  · rw [eqB_len hl]
    have h1 : ((xs.length : Int) != (ys.length : Int)) = true := by simp; omega
    have h2 : (xs.length != ys.length) = true := by simp; omega
    go_enter Tryz.func14, Tryz.ntmps14
    go_wp2_with fail
    go_ret
    exact ⟨rfl, 0, rfl⟩
end Go.Proofs.YtjkhdfncahhnoaaGreat
/- Lists that are the same, that rise, places of a dimension, where a number stands: by the document. -/
namespace Go.Proofs.YtjkhdfncahhnoaaGreat
open Go.RowKit
set_option maxHeartbeats 400000
set_option maxRecDepth 100000
set_option linter.unusedVariables false
theorem ris_small {l : List Int} (h : l.length ≤ 1) : risP l := by
  cases l with
  | nil => exact ris_nil
  | cons x l => cases l with
    | nil => exact ris_one x
    | cons y l => simp at h
end Go.Proofs.YtjkhdfncahhnoaaGreat
/- leb's functions that tell numbers alone, and a code behind a text of the call's own. -/
namespace Go.Proofs.YtjkhdfncahhnoaaGreat
open Go.RowKit
set_option maxHeartbeats 400000
set_option maxRecDepth 100000
set_option linter.unusedVariables false
theorem not_i64 {n : Int} (h : I64 n) : bits BinOp.xor IntKind.i64 (-1) n = -n - 1 := by
  unfold I64 at h
  show IntKind.i64.wrap ((BitVec.ofInt 64 (-1) ^^^ BitVec.ofInt 64 n).toNat : Int) = _
  rw [show BitVec.ofInt 64 (-1) = BitVec.allOnes 64 from rfl, BitVec.allOnes_xor, BitVec.toNat_not, BitVec.toNat_ofInt, IntKind.wrap_i64]
  omega
theorem or_one {m : Int} (h0 : 0 ≤ m) (h1 : m ≤ 9223372036854775807) : bits BinOp.or IntKind.u64 (m * 2) 1 = m * 2 + 1 :=
  bits_join .u64 64 (by decide) (fun n h0 h1 => by rw [IntKind.wrap_u64]; omega) 1 _ _ (by omega) (by omega) (by omega) (by omega) (by omega) (by omega)
theorem leb_Zig (n : Int) (hn : I64 n) (w : World) :
    Calls Tryz.prog 89 #[.int .i64 n] w fun e w' => e = .returned (.int .u64 (zigI n)) ∧ w = w' := by
  have e1 := not_i64 hn
  unfold I64 at hn
  have hsg : IntKind.i64.signed = true := rfl
  by_cases h : n < 0
  · have e2 := or_one (m := -n - 1) (by omega) (by omega)
    go_enter Tryz.func89, Tryz.ntmps89
    go_wp2_with fail
    go_ret
    exact ⟨ret1 (by unfold zigI; rw [if_pos h]; omega), rfl⟩
  · go_enter Tryz.func89, Tryz.ntmps89
    go_wp2_with fail
    go_ret
    exact ⟨ret1 (by unfold zigI; rw [if_neg (by omega)]; omega), rfl⟩
theorem leb_Zag (n : Int) (hn : U64 n) (w : World) :
    Calls Tryz.prog 113 #[.int .u64 n] w fun e w' => e = .returned (.int .i64 (zagI n)) ∧ w = w' := by
  unfold U64 at hn
  have e1 := not_i64 (n := n / 2) (by unfold I64; omega)
  have hsg : IntKind.i64.signed = true := rfl
  by_cases h : n % 2 = 1
  · have h1 : (n % 2 == 1) = true := by simpa using h
    clear h
    go_enter Tryz.func113, Tryz.ntmps113
    go_wp2_with fail
    go_ret
    exact ⟨ret1 (by unfold zagI; rw [if_pos (by simpa using h1)]), rfl⟩
  · have h1 : (n % 2 == 1) = false := by simpa using h
    clear h
    go_enter Tryz.func113, Tryz.ntmps113
    go_wp2_with fail
    go_ret
    exact ⟨ret1 (by unfold zagI; rw [if_neg (by simpa using h1)]), rfl⟩
theorem leb_Size (n : Int) (hn : U64 n) (w : World) :
    Calls Tryz.prog 35 #[.int .u64 n] w fun e w' => e = .returned (.int .i64 ((lebI n).length : Int)) ∧ w = w' := by
  have hb := lebI_bits hn
  have ht := lebI_ten hn
  have CL := hid (Tryz.bits_Len64 (max n 1))
  unfold U64 at hn
  obtain ⟨L, hL⟩ : ∃ L, Lib.bitLen (max n 1).toNat = L := ⟨_, rfl⟩
  rw [hL] at hb CL
  have h1 : 0 ≤ max n 1 := by omega
  have h2 : max n 1 ≤ 18446744073709551615 := by omega
  have h3 : L ≤ 70 := by omega
  have HB := hid hb
  clear hL hb
  go_enter Tryz.func35, Tryz.ntmps35
  go_wp2_with fail
  refine (CL.out _ h1 h2).mono ?_
  rintro _ _ ⟨rfl, rfl⟩
  go_wp2_with fail
  go_ret
  exact ⟨ret1 (by rw [HB.out]; omega), rfl⟩
theorem or_more (x : Int) : bits BinOp.or IntKind.u8 (x % 256) 128 = x % 128 + 128 := by
  have hd : ∀ b : Fin 256, bits BinOp.or IntKind.u8 (b.val : Int) 128 = (b.val : Int) % 128 + 128 := by decide +kernel
  have := hd ⟨(x % 256).toNat, by omega⟩
  simp only at this
  rw [show (((x % 256).toNat : Nat) : Int) = x % 256 by omega] at this
  rw [this]
  omega
/-- One thing appended to a list of the call's own. -/
theorem code_any (base : Nat) (ys : List Int) (n : Int) (A0 : Option Addr) (c0 : Nat) (w : World) (hown : w.ownsRow base 5 1 (.slice A0 ys.length c0) ys.length (ys.map (Value.int .u8))) (hl : ys.length ≤ 100000) (hn : U64 n) (hbase : base ≤ w.heap.size) :
    Calls Tryz.prog 36 #[.slice A0 ys.length c0, .int .u64 n] w (OwnOf 5 .u8 base (ys ++ lebI n) w) := by
  have HT := hid (lebI_ten hn)
  have HO := hid hown
  obtain ⟨R, hR⟩ : ∃ R, ys ++ lebI n = R := ⟨_, rfl⟩
  have hRl : R.length ≤ 100010 := by rw [← hR, List.length_append]; have := HT.out; omega
  rw [hR]
  have HR := hid hR
  clear hR hown
  go_enter Tryz.func36, Tryz.ntmps36
  go_wp2_with fail
  go_loopw [0, 1] (fun t m wr => ∃ (S : List Int) (x : Int) (A : Option Addr) (c : Nat), 0 ≤ x ∧ x ≤ 18446744073709551615 ∧ m = .int .u64 x ∧ t = .slice A S.length c ∧ wr.ownsRow base 5 1 (.slice A S.length c) S.length (S.map (Value.int .u8)) ∧ S ++ lebI x = R ∧ Below base w wr) (fun _ m _ => (intOf m).toNat)
  case atStart => exact ⟨ys, n, A0, c0, hn.1, hn.2, rfl, rfl, HO.out, HR.out, Below.refl _ _⟩
  case round =>
    obtain ⟨S, x, A, c, h0, h1, rfl, rfl, ho, hs, hb⟩ := hrel
    have HO := hid ho
    have HS := hid hs
    have hlS : S.length < 100010 := by have := lebI_pos x h0; rw [← hs, List.length_append] at hRl; omega
    clear ho hs
    by_cases hlt : 128 ≤ x
    · have e1 := or_more x
      have hr0 : Rd (Value.int .u8) (wr.alloc (.cells #[.int .u8 (x % 128 + 128)] 5)) _ (some ⟨wr.heap.size, 0, none⟩) [x % 128 + 128] := rd_one (one_cell wr (.int .u8 (x % 128 + 128)) 5).1
      have h0' := own_on HO.out ((Below.refl wr.heap.size wr).alloc (Nat.le_refl _) (.cells #[.int .u8 (x % 128 + 128)] 5))
      go_wp2_with (at_builtin; refine wpList_app (Value.int .u8) (fun _ => rfl) _ rfl _ _ 33 rfl base 5 (.int .u8 0) 1 Tryz.underlying33 info_u8 rfl S _ _ rfl h0' [x % 128 + 128] _ 1 _ rfl hr0 (by simp [maxLen]; omega) (by simp; omega) (by have := hb.size; simp; omega) ?_)
      clear e1 h0' hr0
      rintro S' A' c' w1 hS' ho hb1 _
      have HS' := hid hS'
      have HO' := hid ho
      clear hS' ho
      go_wp2_with fail
      go_roundw
      case rel =>
        refine ⟨S', x / 128, A', c', by omega, by omega, rfl, rfl, HO'.out, ?_, (hb.alloc (Nat.le_trans hbase hb.size) _).trans hb1⟩
        rw [HS'.out, ← HS.out, lebI_more hlt]
        simp
      case measure => simp [intOf]; omega
    · have e1 : x % 256 = x := by omega
      have hr0 : Rd (Value.int .u8) (wr.alloc (.cells #[.int .u8 x] 5)) _ (some ⟨wr.heap.size, 0, none⟩) [x] := rd_one (one_cell wr (.int .u8 x) 5).1
      have h0' := own_on HO.out ((Below.refl wr.heap.size wr).alloc (Nat.le_refl _) (.cells #[.int .u8 x] 5))
      go_wp2_with (at_builtin; refine wpList_app (Value.int .u8) (fun _ => rfl) _ rfl _ _ 33 rfl base 5 (.int .u8 0) 1 Tryz.underlying33 info_u8 rfl S _ _ rfl h0' [x] _ 1 _ rfl hr0 (by simp [maxLen]; omega) (by simp; omega) (by have := hb.size; simp; omega) ?_)
      clear e1 h0' hr0
      rintro S' A' c' w1 hS' ho hb1 _
      have HS' := hid hS'
      have HO' := hid ho
      clear hS' ho
      go_wp2_with fail
      go_ret
      have e : S' = R := by rw [HS'.out, ← HS.out, lebI_last h0 (by omega)]
      subst e
      exact ⟨A', c', rfl, HO'.out, (hb.alloc (Nat.le_trans hbase hb.size) _).trans hb1⟩
end Go.Proofs.YtjkhdfncahhnoaaGreat
/- Texts that are the same; a number got, signed and not, by the program and by the document. -/
namespace Go.Proofs.YtjkhdfncahhnoaaGreat
open Go.RowKit
set_option maxHeartbeats 400000
set_option maxRecDepth 100000
set_option linter.unusedVariables false
theorem or_comm_u64 (x y : Int) : bits .or .u64 x y = bits .or .u64 y x := by
  show IntKind.u64.wrap ((BitVec.ofInt 64 x ||| BitVec.ofInt 64 y).toNat : Int) = IntKind.u64.wrap ((BitVec.ofInt 64 y ||| BitVec.ofInt 64 x).toNat : Int)
  rw [BitVec.or_comm]
theorem or_put {n x : Int} {k : Nat} (h0 : 0 ≤ x) (h1 : x ≤ 127) (hk : k ≤ 9) (h9 : k = 9 → x ≤ 1) (hn0 : 0 ≤ n) (hn : n < 2 ^ (7 * k)) : bits BinOp.or IntKind.u64 n (x * 2 ^ (7 * k)) = n + x * 2 ^ (7 * k) := by
  have hb := shl_in h0 h1 hk h9
  have hp := pow7_pos k
  have h3 : (2 : Int) ^ (7 * k) ≤ 2 ^ 63 := by
    have := Nat.pow_le_pow_right (show 0 < 2 by decide) (show 7 * k ≤ 63 by omega)
    exact_mod_cast this
  rw [or_comm_u64, bits_join .u64 64 (by decide) (fun n h0 h1 => by rw [IntKind.wrap_u64]; omega) (7 * k) _ _ hb.1 (Int.mul_emod_left _ _) (by omega) hn0 hn (by omega)]
  omega
theorem get_short {b : List Int} {a : Int} (ha : (b.length : Int) ≤ a) : getN b a = 0 ∧ getE b a = 5 ∧ getA b a = 0 :=
  get_out (v := 0) (s := 0) (e := 5) (by omega) (by rw [List.drop_eq_nil_of_le (by omega)]; rfl)
theorem get_arg {b : List Int} {a : Int} (ha : a < 0) : getN b a = 0 ∧ getE b a = 1 ∧ getA b a = 0 := by
  unfold getA getN getE
  simp [ha]
theorem drop_at {D : List Int} {k : Nat} {x : Int} (h : D[k]? = some x) : D.drop k = x :: D.drop (k + 1) := by
  obtain ⟨hk, rfl⟩ := List.getElem?_eq_some_iff.1 h
  exact List.drop_eq_getElem_cons hk
theorem gl_next {D : List Int} {k : Nat} {x n : Int} (h : D[k]? = some x) (hx : 128 ≤ x) (hk : k ≤ 8) : gL (D.drop k) k n = gL (D.drop (k + 1)) (k + 1) (n + x % 128 * 2 ^ (7 * k)) := by
  rw [drop_at h, gL, if_neg (by omega), if_neg (by omega)]
theorem gl_nine {D : List Int} {x n : Int} (h : D[9]? = some x) (hx : 1 < x) : gL (D.drop 9) 9 n = (0, 0, 6) := by
  rw [drop_at h, gL, if_pos ⟨rfl, hx⟩]
theorem gl_zero {D : List Int} {k : Nat} {n : Int} (h : D[k]? = some 0) (hk : 0 < k) : gL (D.drop k) k n = (0, 0, 6) := by
  rw [drop_at h, gL, if_neg (by omega), if_pos (by omega), if_pos ⟨hk, rfl⟩]
theorem gl_last {D : List Int} {k : Nat} {x n : Int} (h : D[k]? = some x) (hx : x < 128) (h9 : k = 9 → x ≤ 1) (h0 : k = 0 ∨ x ≠ 0) : gL (D.drop k) k n = (n + x % 128 * 2 ^ (7 * k), ((k + 1 : Nat) : Int), 0) := by
  rw [drop_at h, gL, if_neg (by omega), if_pos hx, if_neg (by omega)]
theorem gl_end {D : List Int} {k : Nat} {n : Int} (h : D.length ≤ k) : gL (D.drop k) k n = (0, 0, 5) := by
  rw [List.drop_eq_nil_of_le h, gL]
theorem or_part {n x : Int} {k : Nat} (hx : 0 ≤ x ∧ x ≤ 255) (hk : k ≤ 9) (h9 : k = 9 → x ≤ 1) (hn0 : 0 ≤ n) (hn : n < 2 ^ (7 * k)) :
    bits BinOp.or IntKind.u64 n (IntKind.u64.wrap (x % 128 * 2 ^ (7 * k))) = n + x % 128 * 2 ^ (7 * k) := by
  have h := shl_in (x := x % 128) (k := k) (by omega) (by omega) hk (fun e => by have := h9 e; omega)
  rw [show IntKind.u64.wrap (x % 128 * 2 ^ (7 * k)) = x % 128 * 2 ^ (7 * k) by rw [IntKind.wrap_u64]; omega]
  exact or_put (by omega) (by omega) hk (fun e => by have := h9 e; omega) hn0 hn
theorem ret3 {k k' k'' : IntKind} {x y z x' y' z' : Int} (h1 : x = x') (h2 : y = y') (h3 : z = z') : Ending.returned (Value.tuple #[.int k x, .int k' y, .int k'' z]) = Ending.returned (Value.tuple #[.int k x', .int k' y', .int k'' z']) := by rw [h1, h2, h3]
theorem leb_Get {A : Option Addr} {c : Nat} (b : List Int) (hb : b.length ≤ c) (hc : c ≤ 9223372036854775807) (ub : U8s b) (a : Int) (ha : I64 a) (w : World) {B : Nat} (ra : Rd (Value.int .u8) w B A b) :
    Calls Tryz.prog 67 #[.slice A b.length c, .int .i64 a] w fun e w' => e = .returned (.tuple #[.int .u64 (getN b a), .int .i64 (getA b a), .int .i64 (getE b a)]) ∧ w = w' := by
  unfold I64 at ha
  by_cases h1 : a < 0
  · obtain ⟨e1, e2, e3⟩ := get_arg (b := b) h1
    rw [e1, e2, e3]
    clear e1 e2 e3 ra ub
    go_enter Tryz.func67, Tryz.ntmps67
    go_wp2_with fail
    go_ret3
    exact ⟨rfl, rfl⟩
  obtain ⟨D, hD⟩ : ∃ D, b.drop a.toNat = D := ⟨_, rfl⟩
  obtain ⟨p, hp⟩ : ∃ p, (min a (b.length : Int)).toNat = p := ⟨_, rfl⟩
  have hpl : p ≤ b.length := by omega
  have hm : min a (b.length : Int) = (p : Int) := by omega
  have hDl : b.length - p = D.length := by rw [← hD, List.length_drop]; omega
  have hDp : b.drop p = D := by
    rw [← hD]
    by_cases h2 : (b.length : Int) ≤ a
    · rw [List.drop_eq_nil_of_le (by omega), List.drop_eq_nil_of_le (by omega)]
    · congr 1; omega
  have hsl := fun W => run_from (P := Tryz.prog) 33 Tryz.underlying33 Tryz.sizeOf5 A b.length c p hpl hb W
  have hR := ra.cut p hb
  rw [hDp] at hR
  rw [hDl] at hsl
  obtain ⟨A2, hA2⟩ : ∃ A2, cutA A p c = A2 := ⟨_, rfl⟩
  rw [hA2] at hsl hR
  have uD : U8s D := fun x hx => ub x (by rw [← hDp] at hx; exact List.mem_of_mem_drop hx)
  have HR := hid hR
  have HO : Hid (∀ v s e, gL D 0 0 = (v, s, e) → getN b a = v ∧ getE b a = e ∧ getA b a = if e = 0 then a + s else 0) := fun v s e h => get_out (by omega) (by rw [hD]; exact h)
  have hDs : D.length = 0 ∨ a + D.length ≤ 9223372036854775807 := by rw [← hDl]; omega
  clear hp hpl hDl hDp hD hA2 hR ra ub
  go_enter Tryz.func67, Tryz.ntmps67
  go_wp2_with fail
  clear hsl hm
  go_loop [7, 19] (fun m i => ∃ (k : Nat) (n : Int), k ≤ D.length ∧ k ≤ 9 ∧ i = .int .i64 k ∧ m = .int .u64 n ∧ 0 ≤ n ∧ n < 2 ^ (7 * k) ∧ gL D 0 0 = gL (D.drop k) k n) (fun _ i => D.length - (intOf i).toNat)
  case atStart => exact ⟨0, 0, by omega, by omega, rfl, rfl, by omega, by decide, by rw [List.drop_zero]⟩
  case round =>
    obtain ⟨k, n, hk, hk9, rfl, rfl, hn0, hn, hs⟩ := hrel
    have HS := hid hs
    clear hs
    by_cases hlt : k < D.length
    · obtain ⟨b1, o1, x, rfl, l1, ex, c1⟩ := HR.out.at_ hlt
      have hx := uD x (List.mem_of_getElem? ex)
      have EX := hid ex
      clear ex
      by_cases h9 : k = 9 ∧ 1 < x
      · have t1 : ((k : Int) == 9) = true := by simp; omega
        have hx1 : 1 < x := h9.2
        have H9 := hid h9.1
        clear h9
        go_wp2_with fail
        go_ret3
        obtain ⟨e1, e2, e3⟩ := HO.out 0 0 6 (by
          rw [HS.out]
          have e := H9.out
          subst e
          exact gl_nine EX.out hx1)
        rw [e1, e2, e3]
        exact ⟨rfl, rfl⟩
      · have hx9 : k = 9 → x ≤ 1 := by omega
        have e0 := or_part hx hk9 hx9 hn0 hn
        obtain ⟨N, hN⟩ : ∃ N, n + x % 128 * 2 ^ (7 * k) = N := ⟨_, rfl⟩
        have hb2 := part_lt (x := x) hn0 hn
        rw [hN] at e0 hb2
        have HN := hid hN
        have HB2 := hid hb2
        have H9 := hid hx9
        clear hN hb2 hx9
        obtain ⟨t, ht⟩ : ∃ t, ((k : Int) == 9) = t := ⟨_, rfl⟩
        have t1 : t = true → x ≤ 1 := fun e => H9.out (by rw [e] at ht; simp at ht; omega)
        by_cases h128 : 128 ≤ x
        · have hk8 : k ≤ 8 := by have := H9.out; omega
          have t0 : t = false := by
            cases t
            · rfl
            · have := t1 rfl; omega
          subst t0
          clear t1 h9
          go_wp2_with fail
          go_round
          case rel => exact ⟨k + 1, N, by omega, by omega, by go_num, rfl, HB2.out.1, HB2.out.2, by rw [HS.out, gl_next EX.out h128 hk8, HN.out]⟩
          case measure => simp [intOf]; omega
        · have hlt128 : x < 128 := by omega
          have hDa : a + (k : Int) + 1 ≤ 9223372036854775807 := by omega
          clear h9 h128
          by_cases hz : x = 0 ∧ 0 < k
          · have hk0 : 0 < k := hz.2
            obtain rfl := hz.1
            have OUT := hid (HO.out 0 0 6 (by rw [HS.out]; exact gl_zero EX.out hk0))
            clear hz t1 hDs
            cases t <;>
            · go_wp2_with fail
              go_ret3
              obtain ⟨e1, e2, e3⟩ := OUT.out
              rw [e1, e2, e3]
              exact ⟨rfl, rfl⟩
          · have OUT := hid (HO.out N ((k + 1 : Nat) : Int) 0 (by rw [HS.out, ← HN.out]; exact gl_last EX.out hlt128 H9.out (by omega)))
            by_cases hx0 : x = 0
            · have hkz : ¬ 0 < k := by omega
              have hxe : (x == 0) = true := by simpa using hx0
              have t0 : t = false := by rw [← ht]; simp; omega
              subst t0
              clear hz t1 hDs ht hx0
              go_wp2_with fail
              go_ret3
              obtain ⟨e1, e2, e3⟩ := OUT.out
              rw [e1, e2, e3]
              refine ⟨ret3 rfl ?_ rfl, rfl⟩
              simp; omega
            · have hx0' : (x == 0) = false := by simpa using hx0
              have hx1 : t = true → x ≤ 1 := t1
              clear hz t1 hDs hx0
              cases t
              · clear hx1
                go_wp2_with fail
                go_ret3
                obtain ⟨e1, e2, e3⟩ := OUT.out
                rw [e1, e2, e3]
                refine ⟨ret3 rfl ?_ rfl, rfl⟩
                simp; omega
              · have hx1 := hx1 rfl
                go_wp2_with fail
                go_ret3
                obtain ⟨e1, e2, e3⟩ := OUT.out
                rw [e1, e2, e3]
                refine ⟨ret3 rfl ?_ rfl, rfl⟩
                simp; omega
    · have OUT := hid (HO.out 0 0 5 (by rw [HS.out]; exact gl_end (by omega)))
      obtain rfl : k = D.length := by omega
      go_wp2_with fail
      go_ret3
      obtain ⟨e1, e2, e3⟩ := OUT.out
      rw [e1, e2, e3]
      exact ⟨rfl, rfl⟩
end Go.Proofs.YtjkhdfncahhnoaaGreat
/- Numbers put and got, one behind the other, by the program and by the document. -/
namespace Go.Proofs.YtjkhdfncahhnoaaGreat
open Go.RowKit
set_option maxHeartbeats 400000
set_option maxRecDepth 100000
set_option linter.unusedVariables false
theorem encs_step {l : List Int} {k : Nat} {x : Int} (h : l[k]? = some x) : encs (l.take (k + 1)) = encs (l.take k) ++ lebI x := by
  rw [List.take_add_one, h, encs_app]
  congr 1
  exact encs_one x
theorem encs_take {l : List Int} (h : U64s l) (k : Nat) : (encs (l.take k)).length ≤ 10 * l.length := by
  have h1 := encs_len (h.take k)
  have : (l.take k).length ≤ l.length := by rw [List.length_take]; omega
  omega
theorem leb_Put {A B : Option Addr} {c d : Nat} (b l : List Int) (hb : b.length ≤ 50000) (hl : l.length ≤ 5000) (ul : U64s l) (w : World) (ra : Rd (Value.int .u8) w w.heap.size A b) (rl : Rd (Value.int .u64) w w.heap.size B l) :
    Calls Tryz.prog 16 #[.slice A b.length c, .slice B l.length d] w (OwnOf 5 .u8 w.heap.size (b ++ encs l) w) := by
  have HA := hid ra
  have HL := hid rl
  have UL := hid ul
  have HT : Hid (∀ k, (encs (l.take k)).length ≤ 10 * l.length) := encs_take ul
  clear ra rl ul
  go_enter Tryz.func16, Tryz.ntmps16
  go_wp2_with fail
  go_loop [5, 15] (fun s i => ∃ (k T : Nat), k ≤ l.length ∧ i = .int .i64 k ∧ s = .int .i64 T ∧ T = b.length + (encs (l.take k)).length) (fun _ i => l.length - (intOf i).toNat)
  case atStart => exact ⟨0, b.length, by omega, rfl, rfl, by rw [List.take_zero]; rfl⟩
  case round =>
    obtain ⟨k, T, hk, rfl, rfl, hT⟩ := hrel
    have hTb : T ≤ 100000 := by have := HT.out k; omega
    have HTT := hid hT
    clear hT
    by_cases hlt : k < l.length
    · obtain ⟨b1, o1, x, rfl, l1, ex, c1⟩ := HL.out.at_ hlt
      have CS := hid (leb_Size x (UL.out.at_ ex))
      have ht : (lebI x).length ≤ 10 := lebI_ten (UL.out.at_ ex)
      obtain ⟨y, hy⟩ : ∃ y, (lebI x).length = y := ⟨_, rfl⟩
      rw [hy] at CS ht
      have HY := hid hy
      have EX := hid ex
      clear hy ex
      go_wp2_with fail
      refine (CS.out _).mono ?_
      rintro _ _ ⟨rfl, rfl⟩
      go_wp2_with fail
      go_round
      case rel => exact ⟨k + 1, T + y, by omega, by go_num, by go_num, by rw [encs_step EX.out, List.length_append, HTT.out, HY.out]; omega⟩
      case measure => simp [intOf]; omega
    · have hk2 : k = l.length := by omega
      clear HTT hk2 hk
      have hmk := fun W => run_room (P := Tryz.prog) 33 5 (.int .u8 0) 1 Tryz.underlying33 info_u8 rfl T (by omega) (by omega) W
      have h0 := own_room w 5 (.int .u8 0) T (by simp [maxLen]; omega) (Nat.le_refl _)
      have hb0 : Below w.heap.size w (w.alloc (.cells (madeCells #[.int .u8 0] T) 5)) := (Below.refl _ _).alloc (Nat.le_refl _) _
      have hr0 := HA.out.below hb0
      go_wp2_with (at_builtin; refine wpList_app (Value.int .u8) (fun _ => rfl) _ rfl _ _ 33 rfl w.heap.size 5 (.int .u8 0) 1 Tryz.underlying33 info_u8 rfl [] _ T rfl h0 b _ c _ rfl hr0 (by simp [maxLen]; omega) (by simp; omega) (by simp) ?_)
      rintro S A' c' w1 hS ho hb1 _
      have hb2 := hb0.trans hb1
      have HO := hid ho
      have HS := hid hS
      clear hS ho hmk h0 hr0 hb1 hb0
      go_wp2_with fail
      go_loopw [8, 30] (fun t i wr => ∃ (k : Nat) (S : List Int) (A2 : Option Addr) (c2 : Nat), k ≤ l.length ∧ i = .int .i64 k ∧ t = .slice A2 S.length c2 ∧ S = b ++ encs (l.take k) ∧ wr.ownsRow w.heap.size 5 1 (.slice A2 S.length c2) S.length (S.map (Value.int .u8)) ∧ Below w.heap.size w wr) (fun _ i _ => l.length - (intOf i).toNat)
      case atStart => exact ⟨0, S, A', c', by omega, rfl, rfl, by rw [HS.out]; simp [encs], HO.out, hb2⟩
      case round =>
        obtain ⟨k, S, A2, c2, hk, rfl, rfl, hS, ho, hb3⟩ := hrel
        have hSl : S.length ≤ 100000 := by have := HT.out k; rw [hS, List.length_append]; omega
        have HS := hid hS
        have HO := hid ho
        clear hS ho
        by_cases hlt : k < l.length
        · obtain ⟨b1, o1, x, rfl, l1, ex, c1⟩ := (HL.out.below hb3).at_ hlt
          have CC := hid (code_any w.heap.size S x A2 c2 wr HO.out hSl (UL.out.at_ ex) hb3.size)
          obtain ⟨R, hR⟩ : ∃ R, S ++ lebI x = R := ⟨_, rfl⟩
          rw [hR] at CC
          have HR := hid hR
          have EX := hid ex
          clear hR ex
          go_wp2_with fail
          refine CC.out.mono ?_
          rintro _ w4 ⟨A4, c4, rfl, ho, hb4⟩
          have HO4 := hid ho
          clear ho
          go_wp2_with fail
          go_roundw
          case rel => exact ⟨k + 1, R, A4, c4, by omega, by go_num, rfl, by rw [encs_step EX.out, ← HR.out, HS.out, List.append_assoc], HO4.out, hb3.trans hb4⟩
          case measure => simp [intOf]; omega
        · obtain rfl : k = l.length := by omega
          go_wp2_with fail
          go_ret
          have e : S = b ++ encs l := by rw [HS.out, List.take_length]
          rw [← e]
          exact ⟨A2, c2, rfl, HO.out, hb3⟩
end Go.Proofs.YtjkhdfncahhnoaaGreat
/- Signed numbers put; numbers put by the document; one got signed; many got; lists that are the same. -/
namespace Go.Proofs.YtjkhdfncahhnoaaGreat
open Go.RowKit
set_option maxHeartbeats 400000
set_option maxRecDepth 100000
set_option linter.unusedVariables false
theorem encs_zig_step {l : List Int} {k : Nat} {x : Int} (h : l[k]? = some x) : encs ((l.take (k + 1)).map zigI) = encs ((l.take k).map zigI) ++ lebI (zigI x) := by
  rw [List.take_add_one, h, List.map_append, encs_app]
  congr 1
  exact encs_one _
theorem leb_Signed {A B : Option Addr} {c d : Nat} (b l : List Int) (hb : b.length ≤ 50000) (hl : l.length ≤ 5000) (ul : I64s l) (w : World) (ra : Rd (Value.int .u8) w w.heap.size A b) (rl : Rd (Value.int .i64) w w.heap.size B l) :
    Calls Tryz.prog 59 #[.slice A b.length c, .slice B l.length d] w (OwnOf 5 .u8 w.heap.size (b ++ encs (l.map zigI)) w) := by
  obtain ⟨R, hR⟩ : ∃ R, b ++ encs (l.map zigI) = R := ⟨_, rfl⟩
  rw [hR]
  have HR := hid hR
  clear hR
  have HA := hid ra
  have HL := hid rl
  have UL := hid ul
  have hmk := fun W => run_make_row' (P := Tryz.prog) 26 47 (.int .u64 0) 8 Tryz.underlying26 info_u64 rfl .i64 .i64 l.length (by omega) (by omega) W
  clear ra rl ul
  go_enter Tryz.func59, Tryz.ntmps59
  go_wp2_with fail
  go_loopw [13] (fun i wr => ∃ k : Nat, k ≤ l.length ∧ i = .int .i64 k ∧ wr.rowIs w.heap.size 47 l.length (fun j => if j < k then .int .u64 (zigI (l.getD j 0)) else .int .u64 0) ∧ Below w.heap.size w wr) (fun i _ => l.length - (intOf i).toNat)
  case atStart => exact ⟨0, by omega, rfl, by simpa using World.rowIs_made w (.int .u64 0) l.length _, by go_grown⟩
  case round =>
    obtain ⟨k, hk, rfl, hrow, hbel⟩ := hrel
    have hz := hrow.lt
    clear hmk
    by_cases hlt : k < l.length
    · obtain ⟨b1, o1, x, rfl, l1, ex, c1⟩ := (HL.out.below hbel).at_ hlt
      have CZ := hid (leb_Zig x (UL.out.at_ ex))
      obtain ⟨z, hzz⟩ : ∃ z, zigI x = z := ⟨_, rfl⟩
      rw [hzz] at CZ
      have HZ : Hid (zigI (l.getD k 0) = z) := by rw [getD_of ex]; exact hzz
      have f1 := hrow.frozen k
      have c2 := hrow.cell hlt
      rw [if_neg (Nat.lt_irrefl k)] at c2
      clear ex hzz
      go_wp2_with fail
      refine (CZ.out _).mono ?_
      rintro _ _ ⟨rfl, rfl⟩
      go_wp2_with fail
      go_roundw
      case rel =>
        refine ⟨k + 1, by omega, by go_num, ?_, hbel.setCell (Nat.le_refl _) _⟩
        refine (hrow.set k (.int .u64 z)).congr fun j hj => ?_
        by_cases e : j = k
        · subst e
          rw [if_pos rfl, if_pos (by omega), HZ.out]
        · rw [if_neg e]
          by_cases e2 : j < k
          · rw [if_pos e2, if_pos (by omega)]
          · rw [if_neg e2, if_neg (by omega)]
      case measure => simp [intOf]; omega
    · obtain rfl : k = l.length := by omega
      have hr2 : Rd (Value.int .u64) wr wr.heap.size (some ⟨w.heap.size, 0, none⟩) (l.map zigI) := fun j y hy => by
        rw [List.getElem?_map, Option.map_eq_some_iff] at hy
        obtain ⟨x, hx, rfl⟩ := hy
        have hj := (List.getElem?_eq_some_iff.1 hx).1
        refine ⟨w.heap.size, 0, rfl, hz, ?_⟩
        rw [Nat.zero_add, hrow.cell hj, if_pos hj, getD_of hx]
      have CP := hid (leb_Put (c := c) (d := l.length) b (l.map zigI) hb (by simp; omega) (zigs_u64 UL.out) wr (HA.out.on hbel) hr2)
      rw [List.length_map, HR.out] at CP
      clear hr2 hrow
      go_wp2_with fail
      refine CP.out.mono ?_
      rintro _ w3 ho3
      have HO := hid (OwnOf.onto ho3 hbel hbel.size)
      obtain ⟨A3, c3, rfl, _, _⟩ := ho3
      go_wp2_with fail
      go_ret
      exact HO.out
end Go.Proofs.YtjkhdfncahhnoaaGreat
/- Places written and read, by the document. -/
namespace Go.Proofs.YtjkhdfncahhnoaaGreat
open Go.RowKit
set_option maxHeartbeats 400000
set_option maxRecDepth 100000
set_option linter.unusedVariables false
/-- A call's answer: places of the call's own, where it ends, an error. -/
def OwnG (r : List Int × Int × Int) (w : World) (e : Ending) (w' : World) : Prop :=
  ∃ A c, e = .returned (.tuple #[.slice A r.1.length c, .int .i64 r.2.1, .int .i64 r.2.2]) ∧ w'.ownsRow w.heap.size 3 1 (.slice A r.1.length c) r.1.length (r.1.map (Value.int .i64)) ∧ Below w.heap.size w w'
theorem OwnG.nil {er : Int} {w w' : World} (hb : Below w.heap.size w w') : OwnG ([], 0, er) w (.returned (.tuple #[.slice none 0 0, .int .i64 0, .int .i64 er])) w' := ⟨none, 0, rfl, own_nil _ _ _, hb⟩
theorem plc_take {dim : Int} {l : List Int} (h : plcP dim l) (k : Nat) : plcP dim (l.take k) := ⟨h.1, h.2.1, ris_take h.2.2.1 k, fun n hn => h.2.2.2 n (List.mem_of_mem_take hn)⟩
/-- The codes of how many there are, and of the first ones. -/
def putK (l : List Int) (k : Nat) : List Int := encs ((l.length : Int) :: gapsF (-1) (l.take k))
theorem putK_step {l : List Int} {k : Nat} {x : Int} (h : l[k]? = some x) : putK l (k + 1) = putK l k ++ encs [x - lastI (-1) (l.take k) - 1] := by
  unfold putK
  rw [putL_step h, ← List.cons_append, encs_app]
theorem putK_len {dim : Int} {l : List Int} (h : plcP dim l) (k : Nat) : (putK l k).length ≤ 41000 := by
  have h1 := plc_le h
  have h2 := plc_le (plc_take h k)
  have hd := h.2.1
  have hu : U64s ((l.length : Int) :: gapsF (-1) (l.take k)) := by
    have hp := plc_take h k
    intro x hx
    rcases List.mem_cons.1 hx with rfl | hx
    · unfold U64; omega
    · exact gaps_u64 _ (-1) (plc_cons hp) (by omega) (fun n hn => by have := hp.2.2.2 n hn; omega) x hx
  have := encs_len hu
  unfold putK
  rw [List.length_cons, gaps_len] at this
  omega
theorem putK_all (l : List Int) : putK l l.length = encs (putL l) := by unfold putK putL; rw [List.take_length]
theorem gix_cases {dim : Int} {b : List Int} {a : Int} (h1 : 1 ≤ dim) (h2 : dim ≤ 4096) : (getE b a ≠ 0 → gixR dim b a = ([], 0, getE b a)) ∧ (getE b a = 0 → dim < getN b a → gixR dim b a = ([], 0, 6)) ∧
    (getE b a = 0 → getN b a ≤ dim → withL [] (ixL dim b (getN b a).toNat (-1) (getA b a)) = gixR dim b a) := by
  unfold gixR
  rw [if_neg (by omega)]
  refine ⟨fun h => if_pos h, fun h h3 => ?_, fun h h3 => ?_⟩
  · have h' : ¬ getE b a ≠ 0 := fun hn => hn h
    rw [if_neg h', if_pos h3]
  · have h' : ¬ getE b a ≠ 0 := fun hn => hn h
    rw [if_neg h', if_neg (by omega)]
    exact withL_nil (ixL_bad dim b _ _ _)
end Go.Proofs.YtjkhdfncahhnoaaGreat
/- Widths, bytes, whether numbers may be packed; bits put into bytes, by the document. -/
namespace Go.Proofs.YtjkhdfncahhnoaaGreat
open Go.RowKit
set_option maxHeartbeats 400000
set_option maxRecDepth 100000
set_option linter.unusedVariables false
theorem info_bool : (Tryz.prog.info? 4).map (fun i => (i.zero, i.size, i.bytes)) = some (some (.bool false), 1, 1) := by kernel_rfl
theorem wdt_zero : wdt 0 = 0 := by decide
theorem wdt_half {n : Int} (h0 : 0 < n) (h : n ≤ 18446744073709551615) : wdt n = 1 + wdt (n / 2) := by
  unfold wdt
  rw [Lib.bitLen_half n.toNat (by omega) (by omega)]
  congr 2
  omega
theorem wdt_64 {n : Int} (hn : U64 n) : wdt n ≤ 64 := by
  rw [wdt_le hn (by omega)]
  unfold U64 at hn
  have : (2 : Int) ^ 64 = 18446744073709551616 := by decide
  omega
theorem fits_take {wd : Int} {l : List Int} : fitsB wd l = true → ∀ k, fitsB wd (l.take k) = true := fun h k => by
  unfold fitsB at *
  rw [List.all_eq_true] at *
  exact fun n hn => h n (List.mem_of_mem_take hn)
theorem fits_no {wd : Int} {l : List Int} {k : Nat} {x : Int} (hx : l[k]? = some x) (h : wd < (wdt x : Int)) : fitsB wd l = false := by
  cases hb : fitsB wd l with
  | false => rfl
  | true =>
    unfold fitsB at hb
    rw [List.all_eq_true] at hb
    have := of_decide_eq_true (hb x (List.mem_of_getElem? hx))
    omega
theorem fits_step {wd : Int} {l : List Int} {k : Nat} {x : Int} (hx : l[k]? = some x) (h : (wdt x : Int) ≤ wd) (ht : fitsB wd (l.take k) = true) : fitsB wd (l.take (k + 1)) = true := by
  unfold fitsB at *
  rw [List.take_add_one, hx, List.all_append, ht]
  simpa using h
end Go.Proofs.YtjkhdfncahhnoaaGreat
/- Bits put into bytes; numbers packed, woven, signs, by the document. -/
namespace Go.Proofs.YtjkhdfncahhnoaaGreat
open Go.RowKit
set_option maxHeartbeats 400000
set_option maxRecDepth 100000
set_option linter.unusedVariables false
theorem byF_zero (f : Nat → Bool) (i : Nat) : byF 0 f i = 0 := by
  unfold byF
  simp [bv_not]
theorem beq_bt {x : Int} (h0 : 0 ≤ x) (q : Nat) : ((x / 2 ^ q).tmod 2 == 1) = bt x q := by
  rw [Int.tmod_eq_emod_of_nonneg (Int.ediv_nonneg h0 (Int.pow_nonneg (by decide)))]
  unfold bt
  by_cases h : x / 2 ^ q % 2 = 1 <;> simp [h]
end Go.Proofs.YtjkhdfncahhnoaaGreat
/- Numbers woven, by the document. -/
namespace Go.Proofs.YtjkhdfncahhnoaaGreat
open Go.RowKit
set_option maxHeartbeats 400000
set_option maxRecDepth 100000
set_option linter.unusedVariables false
end Go.Proofs.YtjkhdfncahhnoaaGreat
/- Bytes read as bits, by the document. -/
namespace Go.Proofs.YtjkhdfncahhnoaaGreat
open Go.RowKit
set_option maxHeartbeats 400000
set_option maxRecDepth 100000
set_option linter.unusedVariables false
/-- A call's answer: a list that reads so, and an error; nothing that was there has turned. -/
def RdE {α : Type} (enc : α → Value) (xs : List α) (er : Int) (w : World) (e : Ending) (w' : World) : Prop :=
  ∃ A c, e = .returned (.tuple #[.slice A xs.length c, .int .i64 er]) ∧ xs.length ≤ c ∧ c ≤ 9223372036854775807 ∧ Rd enc w' w'.heap.size A xs ∧ Below w.heap.size w w'
theorem RdE.nil {α : Type} {enc : α → Value} {er : Int} {w w' : World} (hb : Below w.heap.size w w') : RdE enc ([] : List α) er w (.returned (.tuple #[.slice none 0 0, .int .i64 er])) w' := ⟨none, 0, rfl, by simp, by omega, Rd.none_, hb⟩
theorem beq_bt8 {x : Int} (h0 : 0 ≤ x) (q : Nat) : ((x / 2 ^ q).tmod 2 == 1) = bt x q := beq_bt h0 q
theorem fB_at {b : List Int} {i j q : Nat} {x : Int} (hx : b[i]? = some x) (h : q + j + 1 = 8) : fB b (8 * i + j) = bt x q := by
  unfold fB
  rw [show (8 * i + j) / 8 = i by omega, show (8 * i + j) % 8 = j by omega, getD_of hx, show 7 - j = q by omega]
end Go.Proofs.YtjkhdfncahhnoaaGreat
/- Numbers unpacked, unwoven; signs read, by the document; lists of signs that are the same. -/
namespace Go.Proofs.YtjkhdfncahhnoaaGreat
open Go.RowKit
set_option maxHeartbeats 400000
set_option maxRecDepth 100000
set_option linter.unusedVariables false
theorem nmF_32 {t k : Nat} (h : t ≤ k) (hk : k ≤ 32) (g : Nat → Bool) : 0 ≤ nmF t g ∧ nmF t g ≤ 4294967296 := by
  have h1 := nmF_lt t g
  have h2 : (2 : Int) ^ t ≤ 2 ^ 32 := by
    have := Nat.pow_le_pow_right (show 0 < 2 by decide) (show t ≤ 32 by omega)
    exact_mod_cast this
  have h3 : (2 : Int) ^ 32 = 4294967296 := by decide
  omega
end Go.Proofs.YtjkhdfncahhnoaaGreat
/- Numbers unwoven, signs read, by the document; lists of signs that are the same. -/
namespace Go.Proofs.YtjkhdfncahhnoaaGreat
open Go.RowKit
set_option maxHeartbeats 400000
set_option maxRecDepth 100000
set_option linter.unusedVariables false
theorem ref_SameSigns {A B : Option Addr} {c d : Nat} (xs : List Bool) (hx : xs.length ≤ 9223372036854775807) (w : World) (ra : Rd Value.bool w w.heap.size A xs) (rb : Rd Value.bool w w.heap.size B xs) :
    Calls Tryz.prog 28 #[.slice A xs.length c, .slice B xs.length d] w fun e w' => e = .returned (.bool true) ∧ Below w.heap.size w w' := by
  have HA := hid ra
  have HB := hid rb
  clear ra rb
  go_enter Tryz.func28, Tryz.ntmps28
  go_wp2_with fail
  go_loopw [13] (fun i wr => ∃ k : Nat, k ≤ xs.length ∧ i = .int .i64 k ∧ Below w.heap.size w wr) (fun i _ => xs.length - (intOf i).toNat)
  case atStart => exact ⟨0, by omega, rfl, Below.refl _ _⟩
  case round =>
    obtain ⟨k, hk, rfl, hb⟩ := hrel
    by_cases hlt : k < xs.length
    · obtain ⟨b1, o1, x, rfl, l1, ex, c1⟩ := (HA.out.below hb).at_ hlt
      obtain ⟨b2, o2, y, rfl, l2, ey, c2⟩ := (HB.out.below hb).at_ hlt
      obtain rfl : x = y := Option.some.inj (ex.symm.trans ey)
      have e' : (x != x) = false := by simp
      clear ex ey
      go_wp2_with fail
      go_quiet (fail)
      go_wp2_with fail
      go_roundw
      case rel => exact ⟨k + 1, by omega, by go_num, hb.trans (belowN _ _ _)⟩
      case measure => simp [intOf]; omega
    · go_wp2_with fail
      go_ret
      exact ⟨rfl, hb⟩
end Go.Proofs.YtjkhdfncahhnoaaGreat
/- Function values: a call of one enters its function. -/
namespace Go.Proofs.YtjkhdfncahhnoaaGreat
open Go.RowKit
set_option maxRecDepth 100000
set_option linter.unusedVariables false
theorem cl_enter (K : FuncId) (hK : (Tryz.prog.funcs[K]?).map (fun f => f.name == "runtime.NumGoroutine" || f.body.isNone) = some false) (args : Array Value) (W : World) : (callFunc K args).run Tryz.prog W = .ok (.enter K args) W := by
  obtain ⟨fn, hf, hb⟩ := Option.map_eq_some_iff.1 hK
  simp only [Bool.or_eq_false_iff] at hb
  have h1 : ¬ fn.name = "runtime.NumGoroutine" := by simpa using hb.1
  have h2 : ¬ fn.body = none := fun e => by simp [e] at hb
  simp [callFunc, hf, h1, h2, go_sem]
end Go.Proofs.YtjkhdfncahhnoaaGreat
/- Bits set one by one, wherever they go: plain mathematics. -/
namespace Go.Proofs.YtjkhdfncahhnoaaGreat
open Go.RowKit
set_option maxRecDepth 100000
set_option linter.unusedVariables false
theorem byF_congr {n : Nat} {f g : Nat → Bool} (h : ∀ k, k < n → f k = g k) (i : Nat) : byF n f i = byF n g i := by
  have e : ∀ p w, bv n f p w = bv n g p w := fun p w => by
    unfold bv
    by_cases hp : p < n
    · rw [h p hp]
    · rw [if_neg (by omega), if_neg (by omega)]
  unfold byF
  simp only [e]
theorem byF_same {n a i : Nat} {f g : Nat → Bool} (h : ∀ p, p < n → p ≠ a → g p = f p) (hi : i ≠ a / 8) : byF n g i = byF n f i := by
  have e : ∀ p w, p / 8 = i → bv n g p w = bv n f p w := fun p w hp => by
    unfold bv
    by_cases hn : p < n
    · rw [h p hn (by omega)]
    · rw [if_neg (by omega), if_neg (by omega)]
  unfold byF
  rw [e _ _ (by omega), e _ _ (by omega), e _ _ (by omega), e _ _ (by omega), e _ _ (by omega), e _ _ (by omega), e _ _ (by omega), e _ _ (by omega)]
theorem or8 : ∀ (r : Fin 8) (a b c d e f g h : Bool), [a, b, c, d, e, f, g, h].getD r.val false = false →
    bits BinOp.or IntKind.u8 (sum8 a b c d e f g h) (2 ^ (7 - r.val)) = sum8 (a || r.val == 0) (b || r.val == 1) (c || r.val == 2) (d || r.val == 3) (e || r.val == 4) (f || r.val == 5) (g || r.val == 6) (h || r.val == 7) := by decide +kernel
theorem byF_set {n a : Nat} {f g : Nat → Bool} (ha : a < n) (h0 : f a = false) (h1 : g a = true) (h : ∀ p, p < n → p ≠ a → g p = f p) :
    bits BinOp.or IntKind.u8 (byF n f (a / 8)) (2 ^ (7 - a % 8)) = byF n g (a / 8) := by
  have e : ∀ t, t < 8 → (decide (8 * (a / 8) + t < n) && g (8 * (a / 8) + t)) = ((decide (8 * (a / 8) + t < n) && f (8 * (a / 8) + t)) || a % 8 == t) := fun t ht => by
    by_cases he : a % 8 = t
    · rw [show 8 * (a / 8) + t = a by omega, h1]
      simp [ha, he]
    · by_cases hn : 8 * (a / 8) + t < n
      · rw [h _ hn (by omega)]
        simp [he]
      · simp [he, hn]
  have e0 := e 0 (by omega)
  rw [Nat.add_zero] at e0
  rw [byF_sum, byF_sum, e0, e 1 (by omega), e 2 (by omega), e 3 (by omega), e 4 (by omega), e 5 (by omega), e 6 (by omega), e 7 (by omega)]
  refine or8 ⟨a % 8, by omega⟩ _ _ _ _ _ _ _ _ ?_
  have ea : ∀ t, a % 8 = t → (decide (8 * (a / 8) + t < n) && f (8 * (a / 8) + t)) = false := fun t ht => by
    rw [show 8 * (a / 8) + t = a by omega, h0, Bool.and_false]
  have h8 : a % 8 < 8 := by omega
  show List.getD _ (a % 8) false = false
  obtain ⟨r, hr⟩ : ∃ r, a % 8 = r := ⟨_, rfl⟩
  rw [hr] at h8 ea ⊢
  match r, h8 with
  | 0, _ => exact ea 0 rfl
  | 1, _ => exact ea 1 rfl
  | 2, _ => exact ea 2 rfl
  | 3, _ => exact ea 3 rfl
  | 4, _ => exact ea 4 rfl
  | 5, _ => exact ea 5 rfl
  | 6, _ => exact ea 6 rfl
  | 7, _ => exact ea 7 rfl
/-- Where each bit of each number goes, and back. -/
def Places (k m : Nat) (pl : Nat → Nat → Nat) (nu bi : Nat → Nat) : Prop :=
  (∀ i j, i < m → j < k → nu (pl i j) = i ∧ bi (pl i j) = j ∧ pl i j < k * m) ∧ ∀ p, p < k * m → nu p < m ∧ bi p < k ∧ pl (nu p) (bi p) = p
theorem places_side (k m : Nat) : Places k m (fun i j => i * k + j) (fun p => p / k) (fun p => p % k) := by
  constructor
  · intro i j hi hj
    refine ⟨?_, ?_, place_lt hi hj⟩
    · show (i * k + j) / k = i
      rw [Nat.mul_comm, Nat.mul_add_div (by omega), Nat.div_eq_of_lt hj, Nat.add_zero]
    · show (i * k + j) % k = j
      rw [Nat.mul_comm, Nat.mul_add_mod, Nat.mod_eq_of_lt hj]
  · intro p hp
    have hk : 0 < k := Nat.pos_of_ne_zero (by rintro rfl; simp at hp)
    refine ⟨Nat.div_lt_of_lt_mul hp, Nat.mod_lt p hk, ?_⟩
    show p / k * k + p % k = p
    rw [Nat.mul_comm]; exact Nat.div_add_mod p k
theorem places_plane (k m : Nat) : Places k m (fun i j => j * m + i) (fun p => p % m) (fun p => p / m) := by
  constructor
  · intro i j hi hj
    refine ⟨?_, ?_, ?_⟩
    · show (j * m + i) % m = i
      rw [Nat.mul_comm, Nat.mul_add_mod, Nat.mod_eq_of_lt hi]
    · show (j * m + i) / m = j
      rw [Nat.mul_comm, Nat.mul_add_div (by omega), Nat.div_eq_of_lt hi, Nat.add_zero]
    · have := place_lt (w := m) (m := k) hj hi
      rw [Nat.mul_comm k m]; exact this
  · intro p hp
    have hm : 0 < m := Nat.pos_of_ne_zero (by rintro rfl; simp at hp)
    refine ⟨Nat.mod_lt p hm, Nat.div_lt_of_lt_mul (by rw [Nat.mul_comm]; exact hp), ?_⟩
    show p / m * m + p % m = p
    rw [Nat.mul_comm]; exact Nat.div_add_mod p m
/-- The bits that are set when all numbers ahead of i, and of i the bits ahead of j, are written. -/
def GB (f : Nat → Bool) (nu bi : Nat → Nat) (i j : Nat) : Nat → Bool := fun p => f p && decide (nu p < i ∨ nu p = i ∧ bi p < j)
section
variable {k m : Nat} {pl : Nat → Nat → Nat} {nu bi : Nat → Nat} {f : Nat → Bool}
theorem GB_zero (n x : Nat) : byF n (GB f nu bi 0 0) x = 0 := by
  rw [byF_congr (g := fun _ => false) (fun p _ => by unfold GB; simp)]
  unfold byF bv
  simp
theorem GB_next (h : Places k m pl nu bi) {i : Nat} (hi : i < m) (x : Nat) : byF (k * m) (GB f nu bi i k) x = byF (k * m) (GB f nu bi (i + 1) 0) x := byF_congr (fun p hp => by
  obtain ⟨h1, h2, h3⟩ := h.2 p hp
  unfold GB
  congr 1
  rw [decide_eq_decide]
  omega) x
theorem GB_end (h : Places k m pl nu bi) (x : Nat) : byF (k * m) (GB f nu bi m 0) x = byF (k * m) f x := byF_congr (fun p hp => by
  obtain ⟨h1, h2, h3⟩ := h.2 p hp
  unfold GB
  rw [decide_eq_true (Or.inl h1), Bool.and_true]) x
theorem GB_else (h : Places k m pl nu bi) {i j p : Nat} (hp : p < k * m) (he : p ≠ pl i j) : GB f nu bi i (j + 1) p = GB f nu bi i j p := by
  obtain ⟨h1, h2, h3⟩ := h.2 p hp
  unfold GB
  congr 1
  rw [decide_eq_decide]
  have : ¬ (nu p = i ∧ bi p = j) := by
    rintro ⟨rfl, rfl⟩
    exact he h3.symm
  omega
theorem GB_off (h : Places k m pl nu bi) {i j : Nat} (hf : f (pl i j) = false) (x : Nat) : byF (k * m) (GB f nu bi i (j + 1)) x = byF (k * m) (GB f nu bi i j) x := byF_congr (fun p hp => by
  by_cases he : p = pl i j
  · rw [he]; unfold GB; rw [hf]; rfl
  · exact GB_else h hp he) x
theorem GB_other (h : Places k m pl nu bi) {i j x : Nat} (hx : x ≠ pl i j / 8) : byF (k * m) (GB f nu bi i (j + 1)) x = byF (k * m) (GB f nu bi i j) x := byF_same (fun p hp he => GB_else h hp he) hx
theorem GB_on (h : Places k m pl nu bi) {i j : Nat} (hi : i < m) (hj : j < k) (hf : f (pl i j) = true) :
    bits BinOp.or IntKind.u8 (byF (k * m) (GB f nu bi i j) (pl i j / 8)) (2 ^ (7 - pl i j % 8)) = byF (k * m) (GB f nu bi i (j + 1)) (pl i j / 8) := by
  obtain ⟨h1, h2, h3⟩ := h.1 i j hi hj
  refine byF_set h3 ?_ ?_ (fun p hp he => GB_else h hp he)
  · unfold GB; rw [h1, h2]; simp
  · unfold GB; rw [h1, h2, hf]; simp
end
theorem or_none {x : Int} (h0 : 0 ≤ x) (h1 : x ≤ 255) : bits BinOp.or IntKind.u8 x 0 = x := by
  obtain ⟨n, rfl⟩ := Int.eq_ofNat_of_zero_le h0
  show IntKind.u8.wrap ((BitVec.ofInt 8 n ||| BitVec.ofInt 8 ((0 : Nat) : Int)).toNat : Int) = _
  rw [BitVec.toNat_or, BitVec.ofInt_natCast, BitVec.ofInt_natCast, BitVec.toNat_ofNat, BitVec.toNat_ofNat, Nat.mod_eq_of_lt (by omega), show 0 % 2 ^ 8 = 0 from rfl, Nat.or_zero]
  simp [IntKind.wrap, IntKind.bits, IntKind.signed]
  omega
/-- A bit as a number. -/
def b2 (v : Bool) : Int := if v then 1 else 0
theorem and_u8 {x : Int} (h0 : 0 ≤ x) (h1 : x ≤ 255) (s : Nat) : bits BinOp.and IntKind.u8 (x / 2 ^ s) 1 = b2 (bt x s) := by
  obtain ⟨n, hn⟩ := Int.eq_ofNat_of_zero_le (Int.ediv_nonneg h0 (show (0 : Int) ≤ 2 ^ s from Int.pow_nonneg (by decide)))
  have hle : x / 2 ^ s ≤ x := Int.ediv_le_self _ h0
  unfold bt b2
  rw [hn] at hle ⊢
  show IntKind.u8.wrap ((BitVec.ofInt 8 n &&& BitVec.ofInt 8 ((1 : Nat) : Int)).toNat : Int) = _
  rw [BitVec.toNat_and, BitVec.ofInt_natCast, BitVec.ofInt_natCast, BitVec.toNat_ofNat, BitVec.toNat_ofNat, Nat.mod_eq_of_lt (by omega), show 1 % 2 ^ 8 = 1 from rfl, Nat.and_one_is_mod]
  by_cases h : n % 2 = 1
  · rw [h, if_pos (by simp; omega)]; rfl
  · rw [show n % 2 = 0 by omega, if_neg (by simp; omega)]; rfl
theorem and_u64 {x : Int} (hx : U64 x) (s : Nat) : bits BinOp.and IntKind.u64 (x / 2 ^ s) 1 = b2 (bt x s) := by
  unfold U64 at hx
  have h0 := hx.1
  obtain ⟨n, hn⟩ := Int.eq_ofNat_of_zero_le (Int.ediv_nonneg h0 (show (0 : Int) ≤ 2 ^ s from Int.pow_nonneg (by decide)))
  have hle : x / 2 ^ s ≤ x := Int.ediv_le_self _ h0
  unfold bt b2
  rw [hn] at hle ⊢
  show IntKind.u64.wrap ((BitVec.ofInt 64 n &&& BitVec.ofInt 64 ((1 : Nat) : Int)).toNat : Int) = _
  rw [BitVec.toNat_and, BitVec.ofInt_natCast, BitVec.ofInt_natCast, BitVec.toNat_ofNat, BitVec.toNat_ofNat, Nat.mod_eq_of_lt (by omega), show 1 % 2 ^ 64 = 1 from rfl, Nat.and_one_is_mod]
  by_cases h : n % 2 = 1
  · rw [h, if_pos (by simp; omega)]; rfl
  · rw [show n % 2 = 0 by omega, if_neg (by simp; omega)]; rfl
theorem or_u64 {y : Int} (h0 : 0 ≤ y) (h1 : y ≤ 4294967296) (v : Bool) : bits BinOp.or IntKind.u64 (y * 2) (b2 v) = 2 * y + if v = true then 1 else 0 := by
  obtain ⟨n, rfl⟩ := Int.eq_ofNat_of_zero_le h0
  obtain ⟨t, ht, hv⟩ : ∃ t : Nat, t < 2 ∧ b2 v = t := by cases v; exact ⟨0, by decide, rfl⟩; exact ⟨1, by decide, rfl⟩
  have hv2 : (if v = true then 1 else 0 : Int) = t := hv
  rw [hv, hv2, show ((n : Int) * 2) = ((2 * n : Nat) : Int) by omega]
  show IntKind.u64.wrap ((BitVec.ofInt 64 _ ||| BitVec.ofInt 64 _).toNat : Int) = _
  rw [BitVec.toNat_or, BitVec.ofInt_natCast, BitVec.ofInt_natCast, BitVec.toNat_ofNat, BitVec.toNat_ofNat, Nat.mod_eq_of_lt (by omega), Nat.mod_eq_of_lt (by omega)]
  have e : 2 * n ||| t = 2 * n + t := by
    have := Nat.two_pow_add_eq_or_of_lt (i := 1) (b := t) ht n
    rw [Nat.pow_one] at this
    exact this.symm
  rw [e]
  simp [IntKind.wrap, IntKind.bits, IntKind.signed]
  omega
end Go.Proofs.YtjkhdfncahhnoaaGreat
/- The program's widths, bytes, single bits, and places as function values. -/
namespace Go.Proofs.YtjkhdfncahhnoaaGreat
open Go.RowKit
set_option maxHeartbeats 400000
set_option maxRecDepth 100000
set_option linter.unusedVariables false
theorem pl_Width (n : Int) (hn : U64 n) (w : World) :
    Calls Tryz.prog 76 #[.int .u64 n] w fun e w' => e = .returned (.int .i64 (wdt n : Int)) ∧ w = w' := by
  unfold U64 at hn
  have CL := hid (Tryz.bits_Len64 n w hn.1 hn.2)
  rw [show (Lib.bitLen n.toNat : Int) = (wdt n : Int) from rfl] at CL
  obtain ⟨R, hR⟩ : ∃ R, wdt n = R := ⟨_, rfl⟩
  rw [hR] at CL ⊢
  clear hR
  go_enter Tryz.func76, Tryz.ntmps76
  go_wp2_with fail
  refine CL.out.mono ?_
  rintro _ _ ⟨rfl, rfl⟩
  go_wp2_with fail
  go_ret
  exact ⟨rfl, rfl⟩
theorem pl_Bytes (wd many : Int) (hw : I64 wd) (hm : I64 many) (w : World) :
    Calls Tryz.prog 106 #[.int .i64 wd, .int .i64 many] w fun e w' => e = .returned (.tuple #[.int .i64 (bysV wd many), .int .i64 (bysE wd many)]) ∧ w = w' := by
  unfold I64 at hw hm
  unfold bysV bysE
  by_cases h1 : wd < 0 ∨ 32 < wd ∨ many < 0
  · rw [if_pos h1, if_neg (by decide)]
    by_cases a : wd < 0
    · clear h1
      go_enter Tryz.func106, Tryz.ntmps106
      go_wp2_with fail
      go_ret2
      exact ⟨rfl, rfl⟩
    · by_cases b : 32 < wd
      · clear h1
        go_enter Tryz.func106, Tryz.ntmps106
        go_wp2_with fail
        go_ret2
        exact ⟨rfl, rfl⟩
      · have c : many < 0 := by omega
        clear h1
        go_enter Tryz.func106, Tryz.ntmps106
        go_wp2_with fail
        go_ret2
        exact ⟨rfl, rfl⟩
  · rw [if_neg h1]
    have a : 0 ≤ wd := by omega
    have b : wd ≤ 32 := by omega
    have c : 0 ≤ many := by omega
    by_cases h2 : 4096 < many
    · rw [if_pos h2, if_neg (by decide)]
      clear h1
      go_enter Tryz.func106, Tryz.ntmps106
      go_wp2_with fail
      go_ret2
      exact ⟨rfl, rfl⟩
    · rw [if_neg h2, if_pos rfl]
      have hp : 0 ≤ wd * many ∧ wd * many ≤ 131072 := by
        have h3 := Int.mul_nonneg a c
        have h4 := Int.mul_le_mul b (show many ≤ 4096 by omega) c (by decide)
        omega
      obtain ⟨q, hq⟩ : ∃ q, wd * many = q := ⟨_, rfl⟩
      rw [hq] at hp ⊢
      have e8 : q + 8 - 1 = q + 7 := by omega
      clear h1
      go_enter Tryz.func106, Tryz.ntmps106
      go_wp2_with fail
      go_ret2
      exact ⟨rfl, rfl⟩
theorem pl_shift (p : Nat) (hp : p ≤ 1000000) (w : World) :
    Calls Tryz.prog 108 #[.int .i64 (p : Int)] w fun e w' => e = .returned (.int .i64 ((7 - p % 8 : Nat) : Int)) ∧ w = w' := by
  obtain ⟨s, hs⟩ : ∃ s, 7 - p % 8 = s := ⟨_, rfl⟩
  rw [hs]
  have e1 : (7 : Int) - (p : Int) % 8 = (s : Int) := by omega
  clear hs
  go_enter Tryz.func108, Tryz.ntmps108
  go_wp2_with fail
  go_ret
  exact ⟨rfl, rfl⟩
theorem pl_one {A : Option Addr} {c : Nat} (b : List Int) (hb : b.length ≤ 100000) (ub : U8s b) (p : Nat) (hp : p < 8 * b.length) (w : World) {B : Nat} (ra : Rd (Value.int .u8) w B A b) :
    Calls Tryz.prog 123 #[.slice A b.length c, .int .i64 (p : Int)] w fun e w' => e = .returned (.int .u8 (b2 (fB b p))) ∧ ∃ n, w' = w.drewN n := by
  obtain ⟨b1, o1, x, rfl, l1, ex, c1⟩ := ra.at_ (show p / 8 < b.length by omega)
  obtain ⟨x0, x1⟩ := ub.at_ ex
  have CS := hid (pl_shift p (by omega))
  have e1 := and_u8 x0 x1 (7 - p % 8)
  have e2 : bt x (7 - p % 8) = fB b p := by unfold fB; rw [getD_of ex]
  rw [e2] at e1
  obtain ⟨s, hs⟩ : ∃ s, 7 - p % 8 = s := ⟨_, rfl⟩
  have hs7 : s ≤ 7 := by omega
  obtain ⟨R, hR⟩ : ∃ R, b2 (fB b p) = R := ⟨_, rfl⟩
  rw [hs] at CS e1
  rw [hR] at e1 ⊢
  obtain ⟨n, hn⟩ : ∃ n, b.length = n := ⟨_, rfl⟩
  rw [hn] at hb hp ⊢
  have hq1 : (0 : Int) ≤ (p : Int) / 8 := by omega
  have hq2 : (p : Int) / 8 < (n : Int) := by omega
  clear ex hs hR e2 ra ub hn
  go_enter Tryz.func123, Tryz.ntmps123
  go_wp2_with fail
  go_quiet ((go_at_call 108; exact quietL CS.out _))
  go_wp2_with fail
  go_ret
  exact ⟨rfl, _, rfl⟩
theorem tlB_no {n : Nat} {b : List Int} {p : Nat} (h : fB b p = true) (h1 : n ≤ p) (h2 : p < 8 * b.length) : tlB n b = false := by
  cases ht : tlB n b with
  | false => rfl
  | true =>
    have := (tlB_iff n b).1 ht p h1 h2
    rw [h] at this
    exact this
theorem pl_left {A : Option Addr} {c : Nat} (b : List Int) (hb : b.length ≤ 100000) (ub : U8s b) (n : Nat) (hn : n ≤ 8 * b.length) (w : World) {B : Nat} (ra : Rd (Value.int .u8) w B A b) :
    Calls Tryz.prog 122 #[.slice A b.length c, .int .i64 (n : Int)] w fun e w' => e = .returned (.bool (!tlB n b)) ∧ ∃ m, w' = w.drewN m := by
  have HO := hid (fun p (hp : p < 8 * b.length) W hW => pl_one (A := A) (c := c) b hb ub p hp W (B := B) hW)
  have HT : Hid (∀ p, n ≤ p → p < 8 * b.length → fB b p = true → tlB n b = false) := hid (fun p h1 h2 h => tlB_no h h1 h2)
  have HY := hid (tlB_iff n b).2
  obtain ⟨R, hR⟩ : ∃ R, tlB n b = R := ⟨_, rfl⟩
  rw [hR] at HT HY ⊢
  obtain ⟨f, hf⟩ : ∃ f, fB b = f := ⟨_, rfl⟩
  rw [hf] at HT HO HY
  obtain ⟨N, hN⟩ : ∃ N, b.length = N := ⟨_, rfl⟩
  rw [hN] at HO HT HY hb hn ⊢
  have RA := hid ra
  clear hR hf hN ub ra
  go_enter Tryz.func122, Tryz.ntmps122
  go_wp2_with fail
  go_loopw [5] (fun s wr => ∃ p : Nat, n ≤ p ∧ p ≤ 8 * N ∧ s = .int .i64 p ∧ (∀ q, n ≤ q → q < p → f q = false) ∧ ∃ m, wr = w.drewN m) (fun s _ => 8 * N - (intOf s).toNat)
  case atStart => exact ⟨n, Nat.le_refl _, hn, rfl, by intro q h1 h2; omega, 0, rfl⟩
  case round =>
    obtain ⟨p, hp0, hp, rfl, hs, m, rfl⟩ := hrel
    have HS := hid hs
    clear hs
    by_cases hlt : p < 8 * N
    · have C := hid (HO.out p hlt (w.drewN m) RA.out)
      have hTp := HT.out p hp0 hlt
      obtain ⟨v, hv⟩ : ∃ v, f p = v := ⟨_, rfl⟩
      rw [hv] at C hTp
      have HV := hid hv
      clear hv
      cases v with
      | true =>
        have hR := hTp rfl
        subst hR
        go_wp2_with fail
        refine C.out.mono ?_
        rintro _ _ ⟨rfl, m2, rfl⟩
        go_wp2_with fail
        go_ret
        exact ⟨rfl, _, rfl⟩
      | false =>
        clear hTp
        go_wp2_with fail
        refine C.out.mono ?_
        rintro _ _ ⟨rfl, m2, rfl⟩
        go_wp2_with fail
        go_roundw
        case rel =>
          refine ⟨p + 1, by omega, by omega, by go_num, ?_, m + m2, by simp⟩
          intro q h1 h2
          by_cases e : q = p
          · rw [e]; exact HV.out
          · exact HS.out q h1 (by omega)
        case measure => simp [intOf]; omega
    · have hR : R = true := HY.out (fun q h1 h2 => HS.out q h1 (by omega))
      subst hR
      go_wp2_with fail
      go_ret
      exact ⟨rfl, _, rfl⟩
theorem side_cl {p i j k P : Nat} {w : World} (hc : w.cell? ⟨p, 0, none⟩ = some (.int .i64 (k : Int))) (hP : i * k + j = P) (h1 : P ≤ 1000000) :
    Calls Tryz.prog 121 (#[.int .i64 (i : Int), .int .i64 (j : Int)] ++ #[.pointer (some ⟨p, 0, none⟩)]) w fun e w' => e = .returned (.int .i64 (P : Int)) ∧ w = w' := by
  obtain ⟨q, hq⟩ : ∃ q, i * k = q := ⟨_, rfl⟩
  have hm : (i : Int) * (k : Int) = (q : Int) := by rw [← hq, Int.natCast_mul]
  have hs : (q : Int) + (j : Int) = (P : Int) := by omega
  clear hq hP
  go_enter Tryz.func121, Tryz.ntmps121
  go_wp2_with fail
  go_ret
  exact ⟨rfl, rfl⟩
theorem plane_cl {p i j m P : Nat} {w : World} (hc : w.cell? ⟨p, 0, none⟩ = some (.int .i64 (m : Int))) (hP : j * m + i = P) (h1 : P ≤ 1000000) :
    Calls Tryz.prog 109 (#[.int .i64 (i : Int), .int .i64 (j : Int)] ++ #[.pointer (some ⟨p, 0, none⟩)]) w fun e w' => e = .returned (.int .i64 (P : Int)) ∧ w = w' := by
  obtain ⟨q, hq⟩ : ∃ q, j * m = q := ⟨_, rfl⟩
  have hm : (j : Int) * (m : Int) = (q : Int) := by rw [← hq, Int.natCast_mul]
  have hs : (q : Int) + (i : Int) = (P : Int) := by omega
  clear hq hP
  go_enter Tryz.func109, Tryz.ntmps109
  go_wp2_with fail
  go_ret
  exact ⟨rfl, rfl⟩
theorem width_cl {p : Nat} {wd x : Int} {w : World} (hc : w.cell? ⟨p, 0, none⟩ = some (.int .i64 wd)) (ux : U64 x) :
    Calls Tryz.prog 107 (#[.int .u64 x] ++ #[.pointer (some ⟨p, 0, none⟩)]) w fun e w' => e = .returned (.bool (decide (wd < (wdt x : Int)))) ∧ ∃ n, w' = w.drewN n := by
  have CW := hid (fun W => pl_Width x ux W)
  obtain ⟨z, hz⟩ : ∃ z, wdt x = z := ⟨_, rfl⟩
  rw [hz] at CW ⊢
  clear hz
  go_enter Tryz.func107, Tryz.ntmps107
  go_wp2_with fail
  go_quiet ((go_at_call 76; exact quietL CW.out _))
  go_wp2_with fail
  go_ret
  exact ⟨rfl, _, rfl⟩
/-- The place of the first that is so, or -1. -/
def fidx (P : Int → Bool) (l : List Int) : Int := if l.any P = true then (l.findIdx P : Int) else -1
theorem fidx_at {P : Int → Bool} {l : List Int} {k : Nat} {x : Int} (hx : l[k]? = some x) (hp : P x = true) (h : ∀ y ∈ l.take k, P y = false) : fidx P l = k ∧ l.any P = true := by
  obtain ⟨hk, rfl⟩ := List.getElem?_eq_some_iff.1 hx
  have ha : l.any P = true := List.any_eq_true.2 ⟨l[k], List.getElem_mem hk, hp⟩
  refine ⟨?_, ha⟩
  unfold fidx
  rw [if_pos ha, (List.findIdx_eq hk).2 ⟨hp, fun j hj => h _ (by rw [List.mem_take_iff_getElem]; exact ⟨j, by omega, rfl⟩)⟩]
theorem fidx_no {P : Int → Bool} {l : List Int} (h : ∀ y ∈ l, P y = false) : fidx P l = -1 ∧ l.any P = false := by
  have ha : l.any P = false := by rw [List.any_eq_false]; intro y hy; rw [h y hy]; decide
  refine ⟨?_, ha⟩
  unfold fidx
  rw [ha]; rfl
theorem index_any {A : Option Addr} {c : Nat} (K : FuncId) (caps : Array Value) (l : List Int) (hl : l.length ≤ 100000) (P : Int → Bool) (w : World)
   (hK : ∀ (args : Array Value) (W : World), (callFunc K args).run Tryz.prog W = .ok (.enter K args) W) {B : Nat} (ra : Rd (Value.int .u64) w B A l)
   (H : ∀ x ∈ l, ∀ n, Calls Tryz.prog K (#[.int .u64 x] ++ caps) (w.drewN n) fun e w' => e = .returned (.bool (P x)) ∧ ∃ m, w' = (w.drewN n).drewN m) :
    Calls Tryz.prog 99 #[.slice A l.length c, .func (.func K) #[] caps] w fun e w' => e = .returned (.int .i64 (fidx P l)) ∧ ∃ n, w' = w.drewN n := by
  have HH := hid H
  have RA := hid ra
  have HF : Hid (∀ k x, l[k]? = some x → P x = true → (∀ y ∈ l.take k, P y = false) → fidx P l = k) := hid (fun k x h1 h2 h3 => (fidx_at h1 h2 h3).1)
  have HG : Hid ((∀ y ∈ l, P y = false) → fidx P l = -1) := hid (fun h => (fidx_no h).1)
  obtain ⟨R, hR⟩ : ∃ R, fidx P l = R := ⟨_, rfl⟩
  rw [hR] at HF HG ⊢
  obtain ⟨N, hN⟩ : ∃ N, l.length = N := ⟨_, rfl⟩
  have HN := hid hN
  rw [hN] at hl ⊢
  clear hR hN H ra
  go_enter Tryz.func99, Tryz.ntmps99
  go_wp2_with fail
  go_loopw [5, 8] (fun i0 i wr => ∃ k : Nat, k ≤ N ∧ i = .int .i64 k ∧ (∀ y ∈ l.take k, P y = false) ∧ ∃ m, wr = w.drewN m) (fun _ i _ => N - (intOf i).toNat)
  case atStart => exact ⟨0, by omega, rfl, by simp, 0, rfl⟩
  case round =>
    obtain ⟨k, hk, rfl, hs, m, rfl⟩ := hrel
    have HS := hid hs
    clear hs
    by_cases hlt : k < N
    · obtain ⟨b1, o1, x, rfl, l1, ex, c1⟩ := RA.out.at_ (k := k) (by rw [HN.out]; exact hlt)
      have C := hid (HH.out x (List.mem_of_getElem? ex) m)
      have hFk := HF.out k x ex
      obtain ⟨v, hv⟩ : ∃ v, P x = v := ⟨_, rfl⟩
      rw [hv] at C hFk
      have HV := hid hv
      have HE := hid ex
      clear hv ex
      cases v with
      | true =>
        have hR := hFk rfl HS.out
        subst hR
        go_wp2_with fail
        refine C.out.mono ?_
        rintro _ _ ⟨rfl, m2, rfl⟩
        go_wp2_with fail
        go_ret
        exact ⟨rfl, m + m2, by simp⟩
      | false =>
        clear hFk
        go_wp2_with fail
        refine C.out.mono ?_
        rintro _ _ ⟨rfl, m2, rfl⟩
        go_wp2_with fail
        go_roundw
        case rel =>
          refine ⟨k + 1, by omega, by go_num, ?_, m + m2, by simp⟩
          intro y hy
          rw [List.take_add_one, HE.out] at hy
          rcases List.mem_append.1 hy with h | h
          · exact HS.out y h
          · simp at h
            rw [h]; exact HV.out
        case measure => simp [intOf]; omega
    · have hR : R = -1 := HG.out (fun y hy => HS.out y (by rw [List.take_of_length_le (by rw [HN.out]; omega)]; exact hy))
      subst hR
      go_wp2_with fail
      go_ret
      exact ⟨rfl, _, rfl⟩
theorem contains_any {A : Option Addr} {c : Nat} (K : FuncId) (caps : Array Value) (l : List Int) (hl : l.length ≤ 100000) (P : Int → Bool) (w : World)
   (hK : ∀ (args : Array Value) (W : World), (callFunc K args).run Tryz.prog W = .ok (.enter K args) W) {B : Nat} (ra : Rd (Value.int .u64) w B A l)
   (H : ∀ x ∈ l, ∀ n, Calls Tryz.prog K (#[.int .u64 x] ++ caps) (w.drewN n) fun e w' => e = .returned (.bool (P x)) ∧ ∃ m, w' = (w.drewN n).drewN m) :
    Calls Tryz.prog 74 #[.slice A l.length c, .func (.func K) #[] caps] w fun e w' => e = .returned (.bool (l.any P)) ∧ ∃ n, w' = w.drewN n := by
  have C := hid (index_any (A := A) (c := c) K caps l hl P w hK ra H)
  have hge : decide (0 ≤ fidx P l) = l.any P := by
    unfold fidx
    by_cases h : l.any P = true
    · rw [if_pos h, h]; simp
    · rw [if_neg h]
      cases hb : l.any P with
      | true => exact absurd hb h
      | false => rfl
  obtain ⟨R, hR⟩ : ∃ R, fidx P l = R := ⟨_, rfl⟩
  obtain ⟨v, hv⟩ : ∃ v, l.any P = v := ⟨_, rfl⟩
  rw [hR, hv] at hge
  rw [hR] at C
  rw [hv]
  clear hR hv H ra
  go_enter Tryz.func74, Tryz.ntmps74
  go_wp2_with fail
  refine C.out.mono ?_
  rintro _ _ ⟨rfl, m, rfl⟩
  go_wp2_with fail
  go_ret
  exact ⟨rfl, _, rfl⟩
end Go.Proofs.YtjkhdfncahhnoaaGreat
/- A block of the call's own that holds these values, cell by cell: structs in boxes; what stores and calls leave of them. -/
namespace Go.Proofs.YtjkhdfncahhnoaaGreat
open Go.RowKit
set_option maxRecDepth 100000
set_option linter.unusedVariables false
/-- The cells of a block, none of them frozen. -/
def BoxL (w : World) (g : Nat) (vs : List Value) : Prop := ∀ (k : Nat) (v : Value), vs[k]? = some v → w.cell? ⟨g, k, none⟩ = some v ∧ w.frozen? ⟨g, k, none⟩ = false
section
variable {w w' : World} {g B : Nat} {vs : List Value}
theorem BoxL.below (h : BoxL w g vs) (hb : Below B w w') (hg : g < B) : BoxL w' g vs := fun k v hv =>
  ⟨(hb.cell (p := ⟨g, k, none⟩) hg).trans (h k v hv).1, (hb.frozen (p := ⟨g, k, none⟩) hg).trans (h k v hv).2⟩
theorem BoxL.new (w : World) (vs : List Value) (t : TypeId) : BoxL (w.alloc (.cells vs.toArray t)) w.heap.size vs := fun k v hv => by
  have hn := heap_alloc_new w (.cells vs.toArray t)
  refine ⟨?_, ?_⟩
  · rw [cell_of_row _ _ k _ t (0, 0) hn]
    simp [hv]
  · unfold World.frozen?
    simp only [hn]
    simp
theorem BoxL.one (h : BoxL w g vs) {k : Nat} {v : Value} (hv : vs[k]? = some v) (u : Value) : BoxL (w.setCell ⟨g, k, none⟩ u) g (vs.set k u) := fun j x hx => by
  refine ⟨?_, ?_⟩
  · by_cases e : j = k
    · subst e
      rw [List.getElem?_set_self (List.getElem?_eq_some_iff.1 hv).1] at hx
      obtain rfl : u = x := Option.some.inj hx
      exact World.cell?_setCell_same _ _ _ (h j v hv).1
    · rw [List.getElem?_set_ne (by omega)] at hx
      rw [World.cell?_setCell_other _ _ _ _ (by intro e'; injection e' with _ e2; exact e e2.symm)]
      exact (h j x hx).1
  · rw [World.frozen?_setCell]
    by_cases e : j = k
    · subst e; exact (h j v hv).2
    · rw [List.getElem?_set_ne (by omega)] at hx
      exact (h j x hx).2
theorem BoxL.other (h : BoxL w g vs) {p : Addr} (hp : p.block ≠ g) (u : Value) : BoxL (w.setCell p u) g vs := fun j x hx => by
  refine ⟨?_, ?_⟩
  · rw [World.cell?_setCell_other _ _ _ _ (by rintro rfl; exact hp rfl)]
    exact (h j x hx).1
  · rw [World.frozen?_setCell]; exact (h j x hx).2
theorem BoxL.drew (h : BoxL w g vs) : BoxL w.drew g vs := h
theorem BoxL.lt (h : BoxL w g vs) (h0 : 0 < vs.length) : g < w.heap.size := lt_of_cell (h 0 _ (List.getElem?_eq_getElem h0)).1
/-- The facts of two, eight, eleven cells. -/
theorem BoxL.two {a b : Value} (h : BoxL w g [a, b]) : w.cell? ⟨g, 0, none⟩ = some a ∧ w.cell? ⟨g, 1, none⟩ = some b ∧ w.frozen? ⟨g, 0, none⟩ = false ∧ w.frozen? ⟨g, 1, none⟩ = false :=
  ⟨(h 0 a rfl).1, (h 1 b rfl).1, (h 0 a rfl).2, (h 1 b rfl).2⟩
theorem BoxL.eight {a b c d e f i j : Value} (h : BoxL w g [a, b, c, d, e, f, i, j]) :
    (w.cell? ⟨g, 0, none⟩ = some a ∧ w.cell? ⟨g, 1, none⟩ = some b ∧ w.cell? ⟨g, 2, none⟩ = some c ∧ w.cell? ⟨g, 3, none⟩ = some d ∧ w.cell? ⟨g, 4, none⟩ = some e ∧ w.cell? ⟨g, 5, none⟩ = some f ∧ w.cell? ⟨g, 6, none⟩ = some i ∧ w.cell? ⟨g, 7, none⟩ = some j) ∧
    (w.frozen? ⟨g, 0, none⟩ = false ∧ w.frozen? ⟨g, 1, none⟩ = false ∧ w.frozen? ⟨g, 2, none⟩ = false ∧ w.frozen? ⟨g, 3, none⟩ = false ∧ w.frozen? ⟨g, 4, none⟩ = false ∧ w.frozen? ⟨g, 5, none⟩ = false ∧ w.frozen? ⟨g, 6, none⟩ = false ∧ w.frozen? ⟨g, 7, none⟩ = false) :=
  ⟨⟨(h 0 a rfl).1, (h 1 b rfl).1, (h 2 c rfl).1, (h 3 d rfl).1, (h 4 e rfl).1, (h 5 f rfl).1, (h 6 i rfl).1, (h 7 j rfl).1⟩, (h 0 a rfl).2, (h 1 b rfl).2, (h 2 c rfl).2, (h 3 d rfl).2, (h 4 e rfl).2, (h 5 f rfl).2, (h 6 i rfl).2, (h 7 j rfl).2⟩
theorem BoxL.cells11 {a b c d e f i j k l m : Value} (h : BoxL w g [a, b, c, d, e, f, i, j, k, l, m]) :
    w.cell? ⟨g, 0, none⟩ = some a ∧ w.cell? ⟨g, 1, none⟩ = some b ∧ w.cell? ⟨g, 2, none⟩ = some c ∧ w.cell? ⟨g, 3, none⟩ = some d ∧ w.cell? ⟨g, 4, none⟩ = some e ∧ w.cell? ⟨g, 5, none⟩ = some f ∧ w.cell? ⟨g, 6, none⟩ = some i ∧ w.cell? ⟨g, 7, none⟩ = some j ∧ w.cell? ⟨g, 8, none⟩ = some k ∧ w.cell? ⟨g, 9, none⟩ = some l ∧ w.cell? ⟨g, 10, none⟩ = some m :=
  ⟨(h 0 a rfl).1, (h 1 b rfl).1, (h 2 c rfl).1, (h 3 d rfl).1, (h 4 e rfl).1, (h 5 f rfl).1, (h 6 i rfl).1, (h 7 j rfl).1, (h 8 k rfl).1, (h 9 l rfl).1, (h 10 m rfl).1⟩
/-- Two cells laid at once; eight cells laid at once. -/
theorem BoxL.set2 {a b : Value} (h : BoxL w g [a, b]) (a' b' : Value) : BoxL ((w.setCell ⟨g, 0, none⟩ a').setCell ⟨g, 1, none⟩ b') g [a', b'] :=
  (h.one (k := 0) rfl a').one (k := 1) (v := b) rfl b'
theorem BoxL.other2 (h : BoxL w g vs) {g' : Nat} (hg : g' ≠ g) (a' b' : Value) : BoxL ((w.setCell ⟨g', 0, none⟩ a').setCell ⟨g', 1, none⟩ b') g vs :=
  (h.other (p := ⟨g', 0, none⟩) hg a').other (p := ⟨g', 1, none⟩) hg b'
end
theorem own_set {w : World} {base n : Nat} {e : TypeId} {v : Value} {vs : List Value} (h : w.ownsRow base e 1 v n vs) {p : Addr} (hp : p.block < base) (u : Value) : (w.setCell p u).ownsRow base e 1 v n vs := by
  refine ⟨h.1, ?_⟩
  rcases h.2 with hn | ⟨g, cap, cur, hv, hg, hh, r⟩
  · exact .inl hn
  · exact .inr ⟨g, cap, cur, hv, hg, (Below.heap_setCell w p u g (by omega)).trans hh, r⟩
end Go.Proofs.YtjkhdfncahhnoaaGreat
/- What follows of frames' texts: read back, written again, apart, how long. No program in sight. -/
namespace Go.Proofs.YtjkhdfncahhnoaaGreat
set_option maxRecDepth 100000
set_option linter.unusedVariables false
theorem sealed_own {b : List Int} (ub : U8s b) : sealedB (b ++ le4 (sumN b)) = true := by
  have hl : (b ++ le4 (sumN b)).length = b.length + 4 := by rw [List.length_append, le4_len]
  rw [sealed_iff (ub.app (le4_bytes _)) (by omega), off_iff ub (sumN_lt b)]
theorem open_seal {b : List Int} (ub : U8s b) (hb : b.length ≤ 65532) : openV (sealV b) = b ∧ openE (sealV b) = 0 := by
  have e : sealV b = b ++ le4 (sumN b) := if_neg (by omega)
  rw [e]
  have hl : (b ++ le4 (sumN b)).length = b.length + 4 := by rw [List.length_append, le4_len]
  have hs := sealed_own ub
  unfold openV openE
  rw [hs, hl, if_neg (by simp only [Bool.true_eq_false, or_false]; omega), if_neg (by omega), if_neg (by omega), if_neg (by decide)]
  refine ⟨?_, rfl⟩
  rw [show b.length + 4 - 4 = b.length by omega, List.take_left]
theorem seal_open {b : List Int} (h : openE b = 0) : sealV (openV b) = b ∧ sealE (openV b) = 0 ∧ (openV b).length + 4 = b.length ∧ b.length ≤ 65536 := by
  unfold openE at h
  split at h
  · simp at h
  · rename_i h1
    split at h
    · simp at h
    · rename_i h2
      split at h
      · simp at h
      · rename_i h3
        have hs : sealedB b = true := by cases hb : sealedB b with
          | true => rfl
          | false => exact absurd hb h3
        have ho : openV b = b.take (b.length - 4) := by
          unfold openV
          rw [if_neg]
          rintro (h | h | h)
          · exact h1 h
          · exact h2 h
          · exact h3 h
        have hl : (openV b).length + 4 = b.length := by rw [ho, List.length_take]; omega
        unfold sealedB sealedB.eqL at hs
        rw [decide_eq_true_eq] at hs
        refine ⟨?_, ?_, hl, by omega⟩
        · unfold sealV
          rw [if_neg (by omega), ho, ← hs, List.take_append_drop]
        · unfold sealE
          rw [if_neg (by omega)]
theorem openV_u8 {l : List Int} (hl : U8s l) : U8s (openV l) := by
  unfold openV
  split
  · intro x hx; simp at hx
  · exact hl.take _
theorem sealV_u8 {l : List Int} (hl : U8s l) : U8s (sealV l) := by
  unfold sealV
  split
  · intro x hx; simp at hx
  · exact hl.app (le4_bytes _)
theorem sgnd_u8 {l : List Int} (h : ∀ x ∈ l, I64 x) : U8s (sgnd l) := encs_u8 (zigs_u64 h)
theorem sgnd_len {l : List Int} (h : ∀ x ∈ l, I64 x) : (sgnd l).length ≤ 10 * l.length := by
  have := encs_len (zigs_u64 h)
  rwa [List.length_map] at this
theorem U8s.cons {x : Int} {l : List Int} (h0 : 0 ≤ x) (h1 : x ≤ 255) (h : U8s l) : U8s (x :: l) := fun y hy => by
  rcases List.mem_cons.1 hy with rfl | hy
  · exact ⟨h0, h1⟩
  · exact h y hy
theorem body_u8 {s : SentV} (hm : mayP s) (hw : wfS s) : U8s (bodyL s) := by
  obtain ⟨sch, dim, L, V, scale, wide, lev, neg⟩ := s
  obtain ⟨hd1, hd4, hc⟩ := hm
  obtain ⟨w1, w2, w3, w4, w5, w6, w7⟩ := hw
  simp only at hd1 hd4 hc w1 w2 w3 w4 w5 w6 w7
  have ud := lebI_u8 dim (by omega)
  unfold bodyL tailL
  simp only
  rcases hc with ⟨rfl, rfl, h2, rfl, rfl, rfl, rfl⟩ | ⟨rfl, h1, h2, rfl, rfl, rfl, rfl⟩ | ⟨rfl, h1, h2, h3, h4, rfl, rfl, h7, h8⟩ | ⟨rfl, rfl, rfl, rfl, rfl, h5, h6⟩
  · exact .cons (by decide) (by decide) (ud.app (sgnd_u8 w4))
  · exact .cons (by decide) (by decide) (ud.app ((pixV_u8 _ _).app (sgnd_u8 w4)))
  · exact .cons (by decide) (by decide) (ud.app ((lebI_u8 scale h7).app ((U8s.cons (by omega) (by omega) (wevV_bytes _ _)).app (sgnV_bytes _))))
  · exact .cons (by decide) (by decide) (ud.app ((lebI_u8 scale h5).app (sgnV_bytes _)))
theorem body_len {s : SentV} {n : Nat} (hm : mayP s) (hw : wfS s) (hV : s.V.length ≤ n) : (bodyL s).length ≤ 45200 + 10 * n := by
  obtain ⟨sch, dim, L, V, scale, wide, lev, neg⟩ := s
  obtain ⟨hd1, hd4, hc⟩ := hm
  obtain ⟨w1, w2, w3, w4, w5, w6, w7⟩ := hw
  simp only at hd1 hd4 hc w1 w2 w3 w4 w5 w6 w7 hV
  have ld := lebI_ten (n := dim) (by unfold U64; omega)
  have lv := sgnd_len w4
  have lp := pixV_len dim L
  unfold bodyL tailL
  simp only [List.length_cons, List.length_append]
  rcases hc with ⟨rfl, rfl, h2, rfl, rfl, rfl, rfl⟩ | ⟨rfl, h1, h2, rfl, rfl, rfl, rfl⟩ | ⟨rfl, h1, h2, h3, h4, rfl, rfl, h7, h8⟩ | ⟨rfl, rfl, rfl, rfl, rfl, h5, h6⟩
  · rw [if_pos rfl]; omega
  · rw [if_neg (by decide), if_pos rfl, List.length_append]; omega
  · rw [if_neg (by decide), if_neg (by decide), if_pos rfl]
    have ls := lebI_ten (n := scale) (by unfold I64 at w5; unfold U64; omega)
    have hn := sgnV_len (l := neg) (by omega)
    have hb : bysE wide lev.length = 0 := by unfold bysE; rw [if_neg (by omega), if_neg (by omega)]
    have hm : mayE wide lev = 0 := by unfold mayE; rw [if_pos hb, if_pos h4]
    have hwl := ((may_same wide lev).2 hm).2
    have h9 : wide.toNat * lev.length ≤ 8 * 4096 := Nat.mul_le_mul (by omega) (by omega)
    simp only [List.length_cons, List.length_append]
    omega
  · rw [if_neg (by decide), if_neg (by decide), if_neg (by decide)]
    have ls := lebI_ten (n := scale) (by unfold I64 at w5; unfold U64; omega)
    have hn := sgnV_len (l := neg) (by omega)
    simp only [List.length_append, List.length_nil]
    omega
theorem text_u8 {f : FrameV} (hc : chkF f = 0) (hw : wfF f) : U8s (textL f) := by
  obtain ⟨h1, h2, h3, h4, h5⟩ := chkF_ok.1 hc
  have hk : f.knd = 1 ∨ f.knd = 2 := by rcases h5 with h | h; exact Or.inl h.1; exact Or.inr h.1
  unfold textL
  refine .cons (by decide) (by decide) (.cons (by omega) (by omega) ((lebI_u8 _ h1).app ((lebI_u8 _ h3).app ?_)))
  rcases h5 with ⟨e, hm⟩ | ⟨e, hz⟩
  · rw [if_pos e]; exact body_u8 (mayB_iff.1 hm) hw.2.2.2
  · rw [if_neg (by omega)]; intro x hx; simp at hx
theorem text_len {f : FrameV} {n : Nat} (hc : chkF f = 0) (hw : wfF f) (hV : f.S.V.length ≤ n) : (textL f).length ≤ 45300 + 10 * n := by
  obtain ⟨h1, h2, h3, h4, h5⟩ := chkF_ok.1 hc
  have lf := lebI_ten (n := f.frm) (by unfold U64; omega)
  have ls := lebI_ten (n := f.stp) (by unfold U64; omega)
  unfold textL
  simp only [List.length_cons, List.length_append]
  rcases h5 with ⟨e, hm⟩ | ⟨e, hz⟩
  · rw [if_pos e]
    have := body_len (mayB_iff.1 hm) hw.2.2.2 hV
    omega
  · rw [if_neg (by omega)]
    simp only [List.length_nil]
    omega
/-- Written, and read. -/
theorem wrt_ok {f : FrameV} (hw : wfF f) (hV : f.S.V.length ≤ 1000) : (wrtE f = 0 ↔ chkF f = 0) ∧ (wrtE f = 0 ∨ wrtE f = 1) := by
  unfold wrtE
  by_cases hc : chkF f = 0
  · have := text_len hc hw hV
    have hs : sealE (textL f) = 0 := if_neg (by omega)
    rw [if_pos hc, hs]
    simp [hc]
  · rw [if_neg hc]
    simp [hc]
theorem rd_wrt {f : FrameV} (hw : wfF f) (hV : f.S.V.length ≤ 1000) (h : wrtE f = 0) : rdR (wrtV f) = (f, 0) ∧ U8s (wrtV f) ∧ (wrtV f).length = (textL f).length + 4 ∧ off (wrtV f) = 0 := by
  have hc := (wrt_ok hw hV).1.1 h
  have hl := text_len hc hw hV
  have hu := text_u8 hc hw
  have e : wrtV f = sealV (textL f) := if_pos hc
  have e2 : sealV (textL f) = textL f ++ le4 (sumN (textL f)) := if_neg (by omega)
  obtain ⟨h1, h2⟩ := open_seal hu (by omega)
  refine ⟨?_, by rw [e]; exact sealV_u8 hu, by rw [e, e2, List.length_append, le4_len], ?_⟩
  · unfold rdR
    rw [e, h2, if_neg (by decide), h1]
    exact read1_put hc hw
  · rw [e, e2]
    exact (off_iff hu (sumN_lt _)).2 rfl
theorem wrt_rd {b : List Int} {f : FrameV} (ub : U8s b) (h : rdR b = (f, 0)) : chkF f = 0 ∧ wfF f ∧ wrtV f = b ∧ wrtE f = 0 := by
  unfold rdR at h
  by_cases he : openE b = 0
  · rw [if_neg (by rw [he]; decide)] at h
    obtain ⟨hc, hw, ht⟩ := read1_back (openV_u8 ub) h
    obtain ⟨h1, h2, _, _⟩ := seal_open he
    refine ⟨hc, hw, ?_, ?_⟩
    · unfold wrtV; rw [if_pos hc, ht, h1]
    · unfold wrtE; rw [if_pos hc, ht, h2]
  · rw [if_pos he] at h
    simp only [Prod.mk.injEq] at h
    exact absurd h.2 he
theorem rd_bad {b : List Int} (h : (rdR b).2 ≠ 0) : (rdR b).1 = zeroF := by
  unfold rdR at h ⊢
  by_cases he : openE b = 0
  · rw [if_neg (by rw [he]; decide)] at h ⊢
    rw [read1_bad h]
  · rw [if_pos he]
theorem rd_cases (b : List Int) : (rdR b).2 = openE b ∨ openE b = 0 ∧ (rdR b).2 = 6 := by
  unfold rdR
  by_cases he : openE b = 0
  · rw [if_neg (by rw [he]; decide)]
    by_cases h : (read1 (openV b)).2 = 0
    · left; rw [h, he]
    · right; rw [read1_bad h]; exact ⟨he, rfl⟩
  · rw [if_pos he]
    left; rfl
theorem apart {f g : FrameV} (hf : wfF f) (hg : wfF g) (lf : f.S.V.length ≤ 1000) (lg : g.S.V.length ≤ 1000) (h1 : wrtE f = 0) (h2 : wrtE g = 0) : eqB (wrtV f) (wrtV g) = sameF f g := by
  have a := (rd_wrt hf lf h1).1
  have b := (rd_wrt hg lg h2).1
  by_cases e : f = g
  · subst e
    rw [eqB_self, sameF_self]
  · have hs : sameF f g = false := by
      cases h : sameF f g with
      | false => rfl
      | true => exact absurd (sameF_iff.1 h) e
    rw [hs]
    unfold eqB
    rw [decide_eq_false_iff_not]
    intro he
    rw [he, b] at a
    simp only [Prod.mk.injEq, and_true] at a
    exact e a.symm
/-- How long its lists are, if it may be; what is read. -/
theorem may_len {s : SentV} (h : mayP s) : s.L.length ≤ 4096 ∧ s.V.length ≤ 4096 ∧ s.lev.length ≤ 4096 ∧ s.neg.length ≤ 4096 := by
  obtain ⟨sch, dim, L, V, scale, wide, lev, neg⟩ := s
  obtain ⟨hd1, hd4, hc⟩ := h
  simp only at hd1 hd4 hc ⊢
  rcases hc with ⟨_, rfl, h2, _, rfl, _, rfl⟩ | ⟨_, h1, h2, _, rfl, _, rfl⟩ | ⟨_, _, _, h3, _, rfl, rfl, _, h8⟩ | ⟨_, rfl, rfl, _, rfl, _, h6⟩
  · simp; omega
  · have := plc_le (chk_ok.1 h1)
    simp; omega
  · simp; omega
  · simp; omega
theorem chk_len {f : FrameV} (h : chkF f = 0) : f.S.L.length ≤ 4096 ∧ f.S.V.length ≤ 4096 ∧ f.S.lev.length ≤ 4096 ∧ f.S.neg.length ≤ 4096 := by
  obtain ⟨_, _, _, _, h5⟩ := chkF_ok.1 h
  rcases h5 with ⟨_, hm⟩ | ⟨_, hz⟩
  · exact may_len (mayB_iff.1 hm)
  · rw [sameS_iff.1 hz]; simp [zeroS]
theorem rd_all {b : List Int} (ub : U8s b) : wfF (rdR b).1 ∧ (rdR b).1.S.L.length ≤ 4096 ∧ (rdR b).1.S.V.length ≤ 4096 ∧ (rdR b).1.S.lev.length ≤ 4096 ∧ (rdR b).1.S.neg.length ≤ 4096 := by
  by_cases h : (rdR b).2 = 0
  · obtain ⟨f, e, hf⟩ : ∃ f e, rdR b = (f, e) := ⟨_, _, rfl⟩
    rw [hf] at h ⊢
    simp only at h
    subst h
    obtain ⟨hc, hw, _, _⟩ := wrt_rd ub hf
    exact ⟨hw, chk_len hc⟩
  · rw [rd_bad h]
    exact ⟨⟨by decide, by decide, by decide, wf_zeroS⟩, by simp [zeroF, zeroS]⟩
/-- An acknowledgement. -/
def ackF (frm stp : Int) : FrameV := ⟨2, frm, stp, zeroS⟩
theorem ack_wf {frm stp : Int} (h1 : I64 frm) (h2 : I64 stp) : wfF (ackF frm stp) := ⟨show I64 2 by decide, h1, h2, wf_zeroS⟩
theorem ack_chk {frm stp : Int} : chkF (ackF frm stp) = 0 ↔ (0 ≤ frm ∧ frm < 64 ∧ 0 ≤ stp ∧ stp ≤ 1073741824) := by
  rw [chkF_ok]
  unfold frmP ackF
  simp only
  constructor
  · rintro ⟨h1, h2, h3, h4, _⟩; exact ⟨h1, h2, h3, h4⟩
  · rintro ⟨h1, h2, h3, h4⟩; exact ⟨h1, h2, h3, h4, by simp [sameS_iff]⟩
theorem ack_text (frm stp : Int) : textL (ackF frm stp) = 1 :: 2 :: encs [frm, stp] := by
  unfold textL ackF
  simp only
  rw [if_neg (by decide), List.append_nil, encs_cons, encs_one]
/-- Bent. -/
theorem no_frm {f : FrameV} : chkF { f with frm := 64 } = 1 := chkF_no (fun h => by have := h.2.1; simp at this)
theorem no_knd {f : FrameV} (h : chkF f = 0) : chkF { f with knd := 3 - f.knd } = 1 := chkF_no (fun h2 => by
  obtain ⟨_, _, _, _, h5⟩ := chkF_ok.1 h
  obtain ⟨_, _, _, _, h6⟩ := h2
  simp only at h6
  have key : mayB f.S = true → sameS f.S zeroS = true → False := fun a b => by
    rw [sameS_iff.1 b] at a
    have := (mayB_iff.1 a).1
    simp [zeroS] at this
  rcases h5 with ⟨e, hm⟩ | ⟨e, hz⟩
  · rcases h6 with ⟨e2, hm2⟩ | ⟨e2, hz2⟩
    · omega
    · exact key hm hz2
  · rcases h6 with ⟨e2, hm2⟩ | ⟨e2, hz2⟩
    · exact key hm2 hz
    · omega)
theorem may_kinds {f : FrameV} (h : chkF f = 0) : mayB f.S = (f.knd == 1) := by
  obtain ⟨_, _, _, _, h5⟩ := chkF_ok.1 h
  rcases h5 with ⟨e, hm⟩ | ⟨e, hz⟩
  · rw [hm, e]; rfl
  · rw [e, sameS_iff.1 hz]
    rfl
theorem no_V {f : FrameV} (h : chkF f = 0) : chkF { f with S := { f.S with V := f.S.V ++ [1] } } = 1 := chkF_no (fun h2 => by
  obtain ⟨_, _, _, _, h5⟩ := chkF_ok.1 h
  obtain ⟨_, _, _, _, h6⟩ := h2
  simp only at h6
  rcases h6 with ⟨e2, hm2⟩ | ⟨e2, hz2⟩
  · rcases h5 with ⟨e, hm⟩ | ⟨e, hz⟩
    · obtain ⟨_, _, a⟩ := mayB_iff.1 hm
      obtain ⟨_, _, b⟩ := mayB_iff.1 hm2
      simp only [List.length_append, List.length_singleton] at b
      rcases a with a | a | a | a <;> rcases b with b | b | b | b
      all_goals first
        | (have := a.1; have := b.1; omega)
        | (have := a.2.2.1; have := b.2.2.1; omega)
        | (have := b.2.2.2.2.2.2.1; simp at this)
        | (have := b.2.2.1; simp at this)
    · omega
  · have := sameS_iff.1 hz2
    have := congrArg SentV.V this
    simp [zeroS] at this)
theorem no_L {f : FrameV} (h : chkF f = 0) : chkF { f with S := { f.S with L := f.S.L ++ [f.S.dim] } } = 1 := chkF_no (fun h2 => by
  obtain ⟨_, _, _, _, h6⟩ := h2
  simp only at h6
  rcases h6 with ⟨e2, hm2⟩ | ⟨e2, hz2⟩
  · obtain ⟨_, _, b⟩ := mayB_iff.1 hm2
    simp only at b
    rcases b with b | b | b | b
    · have := b.2.1; simp at this
    · have := (chk_ok.1 b.2.1).2.2.2 f.S.dim (by simp)
      omega
    · have := b.2.2.2.2.2.1; simp at this
    · have := b.2.1; simp at this
  · have := sameS_iff.1 hz2
    have := congrArg SentV.L this
    simp [zeroS] at this)
theorem no_scale {f : FrameV} : chkF { f with S := { f.S with scale := -1 } } = 1 := chkF_no (fun h2 => by
  obtain ⟨_, _, _, _, h6⟩ := h2
  simp only at h6
  rcases h6 with ⟨e2, hm2⟩ | ⟨e2, hz2⟩
  · obtain ⟨_, _, b⟩ := mayB_iff.1 hm2
    simp only at b
    rcases b with b | b | b | b
    · have := b.2.2.2.2.2.1; omega
    · have := b.2.2.2.2.2.1; omega
    · have := b.2.2.2.2.2.2.2.1; omega
    · have := b.2.2.2.2.2.1; omega
  · have := sameS_iff.1 hz2
    have := congrArg SentV.scale this
    simp [zeroS] at this)
end Go.Proofs.YtjkhdfncahhnoaaGreat
/- A map of four functions that a call makes, and looks into. -/
namespace Go.Proofs.YtjkhdfncahhnoaaGreat
open Go.RowKit Go.Maps
set_option maxHeartbeats 1000000
set_option maxRecDepth 100000
set_option linter.unusedVariables false
open Classical in
/-- How a function reads: by its number among four. -/
noncomputable def fnR (F0 F1 F2 F3 : Value) (v : Value) : Option (DataW Unit × List MemPlace) :=
  if v = F0 then some (.lit (.int .i64 0), []) else if v = F1 then some (.lit (.int .i64 1), []) else if v = F2 then some (.lit (.int .i64 2), []) else if v = F3 then some (.lit (.int .i64 3), []) else some (.lit (.int .i64 9), [])
theorem fnR_some (F0 F1 F2 F3 v : Value) : ∃ d ps, fnR F0 F1 F2 F3 v = some (d, ps) := by
  unfold fnR
  split
  · exact ⟨_, _, rfl⟩
  · split
    · exact ⟨_, _, rfl⟩
    · split
      · exact ⟨_, _, rfl⟩
      · split
        · exact ⟨_, _, rfl⟩
        · exact ⟨_, _, rfl⟩
theorem fnR_inv {F0 F1 F2 F3 v : Value} {d : DataW Unit} {ps : List MemPlace} (h : fnR F0 F1 F2 F3 v = some (d, ps)) : (d = .lit (.int .i64 0) → v = F0) ∧ (d = .lit (.int .i64 1) → v = F1) ∧ (d = .lit (.int .i64 2) → v = F2) ∧ (d = .lit (.int .i64 3) → v = F3) := by
  unfold fnR at h
  split at h
  · simp only [Option.some.injEq, Prod.mk.injEq] at h
    obtain ⟨rfl, _⟩ := h
    simp_all
  · split at h
    · simp only [Option.some.injEq, Prod.mk.injEq] at h
      obtain ⟨rfl, _⟩ := h
      simp_all
    · split at h
      · simp only [Option.some.injEq, Prod.mk.injEq] at h
        obtain ⟨rfl, _⟩ := h
        simp_all
      · split at h
        · simp only [Option.some.injEq, Prod.mk.injEq] at h
          obtain ⟨rfl, _⟩ := h
          simp_all
        · simp only [Option.some.injEq, Prod.mk.injEq] at h
          obtain ⟨rfl, _⟩ := h
          simp
def fnD : DataW Unit := .map [(.int .i64 0, .lit (.int .i64 0)), (.int .i64 1, .lit (.int .i64 1)), (.int .i64 2, .lit (.int .i64 2)), (.int .i64 3, .lit (.int .i64 3))]
theorem fnD_made : ((((DataW.map [] : DataW Unit).put (.int .i64 0) (.lit (.int .i64 0))).put (.int .i64 1) (.lit (.int .i64 1))).put (.int .i64 2) (.lit (.int .i64 2))).put (.int .i64 3) (.lit (.int .i64 3)) = fnD := by rfl
theorem fnD_has {x : Int} (h0 : x ≠ 0) (h1 : x ≠ 1) (h2 : x ≠ 2) (h3 : x ≠ 3) : Maps.has fnD (.int .i64 x) = false := by
  unfold Maps.has fnD
  simp [Lit.sameKey]
  omega
/-- What a block is good for that is such a map. -/
structure FnMap (P : Program) (t : TypeId) (b : Nat) (F0 F1 F2 F3 : Value) (W : World) : Prop where
  l0 : (Instr.lookup t (.map (some b)) (.int .i64 0) false).run P W = .ok F0 W
  l1 : (Instr.lookup t (.map (some b)) (.int .i64 1) false).run P W = .ok F1 W
  l2 : (Instr.lookup t (.map (some b)) (.int .i64 2) false).run P W = .ok F2 W
  l3 : (Instr.lookup t (.map (some b)) (.int .i64 3) false).run P W = .ok F3 W
  k0 : (Instr.lookup t (.map (some b)) (.int .i64 0) true).run P W = .ok (.tuple #[F0, .bool true]) W
  k1 : (Instr.lookup t (.map (some b)) (.int .i64 1) true).run P W = .ok (.tuple #[F1, .bool true]) W
  k2 : (Instr.lookup t (.map (some b)) (.int .i64 2) true).run P W = .ok (.tuple #[F2, .bool true]) W
  k3 : (Instr.lookup t (.map (some b)) (.int .i64 3) true).run P W = .ok (.tuple #[F3, .bool true]) W
  kx : ∀ x : Int, -9223372036854775808 ≤ x → x ≤ 9223372036854775807 → x ≠ 0 → x ≠ 1 → x ≠ 2 → x ≠ 3 → ∃ v, (Instr.lookup t (.map (some b)) (.int .i64 x) true).run P W = .ok (.tuple #[v, .bool false]) W
theorem fnmap {P : Program} {t k e : TypeId} (ht : P.underlying t = some (.map k e)) (hk : P.underlying k = some (.int .i64)) {z : Value} (hz : ∀ w, (zeroValue e).run P w = .ok z w) (F0 F1 F2 F3 : Value)
    (d10 : F1 ≠ F0) (d20 : F2 ≠ F0) (d21 : F2 ≠ F1) (d30 : F3 ≠ F0) (d31 : F3 ≠ F1) (d32 : F3 ≠ F2) (w : World) (b : Nat) (hb : b = w.heap.size) :
    ∃ W2 W3 W4 W5, (Instr.mapUpdate t (.map (some b)) (.int .i64 0) F0).run P (w.alloc (.map #[] 0)) = .ok () W2 ∧ (Instr.mapUpdate t (.map (some b)) (.int .i64 1) F1).run P W2 = .ok () W3 ∧
      (Instr.mapUpdate t (.map (some b)) (.int .i64 2) F2).run P W3 = .ok () W4 ∧ (Instr.mapUpdate t (.map (some b)) (.int .i64 3) F3).run P W4 = .ok () W5 ∧
      Below b w W2 ∧ Below b w W3 ∧ Below b w W4 ∧ Below b w W5 ∧ b < W5.heap.size ∧ (∀ W, W.heap[b]? = W5.heap[b]? → FnMap P t b F0 F1 F2 F3 W) := by
  subst hb
  have K : Keyed P k := int_keyed hk
  have hkey : ∀ x : Int, -9223372036854775808 ≤ x → x ≤ 9223372036854775807 → keyOf P k (.int .i64 x) = some (.int .i64 x) := fun x h0 h1 => keyOf_int_mk hk (WalkArith.wf_i64 ⟨h0, h1⟩)
  have o1 : (w.alloc (.map #[] 0)).ownsMap P k (fnR F0 F1 F2 F3) w.heap.size 0 (.map []) := World.ownsMap_made _ _ _ _
  have r0 : fnR F0 F1 F2 F3 F0 = some (.lit (.int .i64 0), []) := by unfold fnR; rw [if_pos rfl]
  have r1 : fnR F0 F1 F2 F3 F1 = some (.lit (.int .i64 1), []) := by unfold fnR; rw [if_neg d10, if_pos rfl]
  have r2 : fnR F0 F1 F2 F3 F2 = some (.lit (.int .i64 2), []) := by unfold fnR; rw [if_neg d20, if_neg d21, if_pos rfl]
  have r3 : fnR F0 F1 F2 F3 F3 = some (.lit (.int .i64 3), []) := by unfold fnR; rw [if_neg d30, if_neg d31, if_neg d32, if_pos rfl]
  obtain ⟨W2, u2, o2, g2⟩ := o1.update K ht (by decide) (hkey 0 (by omega) (by omega)) r0
  obtain ⟨W3, u3, o3, g3⟩ := o2.update K ht (by decide) (hkey 1 (by omega) (by omega)) r1
  obtain ⟨W4, u4, o4, g4⟩ := o3.update K ht (by decide) (hkey 2 (by omega) (by omega)) r2
  obtain ⟨W5, u5, o5, g5⟩ := o4.update K ht (by decide) (hkey 3 (by omega) (by omega)) r3
  rw [fnD_made] at o5
  have hs : ∀ k, some w.heap.size = some k → w.heap.size ≤ k := fun k hk => by cases hk; exact Nat.le_refl _
  have b1 : Below w.heap.size w (w.alloc (.map #[] 0)) := (Below.refl _ _).alloc (Nat.le_refl _) _
  have b2 := b1.grown g2 b1.size hs
  have b3 := b2.grown g3 b2.size hs
  have b4 := b3.grown g4 b3.size hs
  have b5 := b4.grown g5 b4.size hs
  refine ⟨W2, W3, W4, W5, u2, u3, u4, u5, b2, b3, b4, b5, o5.lt, fun W hW => ?_⟩
  have oW : W.ownsMap P k (fnR F0 F1 F2 F3) w.heap.size (0 + 1 + 1 + 1 + 1) fnD := by
    obtain ⟨es, clock, h1, h2⟩ := o5
    exact ⟨es, clock, hW.trans h1, h2⟩
  obtain ⟨zd, zp, hzd⟩ := fnR_some F0 F1 F2 F3 z
  have L := fun x h0 h1 => oW.lookup K ht (hz W) hzd (hkey x h0 h1)
  have M := fun x h0 h1 => oW.look_ok K ht (hz W) hzd (hkey x h0 h1)
  refine ⟨?_, ?_, ?_, ?_, ?_, ?_, ?_, ?_, ?_⟩
  · obtain ⟨v, ps, h1, h2⟩ := L 0 (by omega) (by omega)
    rw [(fnR_inv h2).1 rfl] at h1; exact h1
  · obtain ⟨v, ps, h1, h2⟩ := L 1 (by omega) (by omega)
    rw [(fnR_inv h2).2.1 rfl] at h1; exact h1
  · obtain ⟨v, ps, h1, h2⟩ := L 2 (by omega) (by omega)
    rw [(fnR_inv h2).2.2.1 rfl] at h1; exact h1
  · obtain ⟨v, ps, h1, h2⟩ := L 3 (by omega) (by omega)
    rw [(fnR_inv h2).2.2.2 rfl] at h1; exact h1
  · obtain ⟨v, ps, h1, h2⟩ := M 0 (by omega) (by omega)
    rw [(fnR_inv h2).1 rfl] at h1; exact h1
  · obtain ⟨v, ps, h1, h2⟩ := M 1 (by omega) (by omega)
    rw [(fnR_inv h2).2.1 rfl] at h1; exact h1
  · obtain ⟨v, ps, h1, h2⟩ := M 2 (by omega) (by omega)
    rw [(fnR_inv h2).2.2.1 rfl] at h1; exact h1
  · obtain ⟨v, ps, h1, h2⟩ := M 3 (by omega) (by omega)
    rw [(fnR_inv h2).2.2.2 rfl] at h1; exact h1
  · intro x h0 h1 n0 n1 n2 n3
    obtain ⟨v, ps, q1, q2⟩ := M x h0 h1
    rw [fnD_has n0 n1 n2 n3] at q1
    exact ⟨v, q1⟩
end Go.Proofs.YtjkhdfncahhnoaaGreat
/- A step of a region that draws: an append onto a list of the call's own. -/
namespace Go.Proofs.YtjkhdfncahhnoaaGreat
open Go.RowKit
set_option maxHeartbeats 400000
set_option maxRecDepth 100000
set_option linter.unusedVariables false
theorem step_app {P : Program} {α : Type} (enc : α → Value) (h1 : ∀ x, (enc x).oneCell' = true) {w : World} {ops : Array Oper} {o : Oper} {a : Act} {K : Act → World → Prop} {Q : Exit → Act → World → Prop} {E : Prop} (hgd : o.guard = none) (s x : Operand) (t : TypeId)
    (ho : o.op = .call { callee := .builtin .append, args := #[s, x], argTypes := #[t, t] })
    (base : Nat) (e : TypeId) (z : Value) (bytes : Nat) (ht : P.underlying t = some (.slice e)) (hinfo : (P.info? e).map (fun i => (i.zero, i.size, i.bytes)) = some (some z, 1, bytes)) (hzs : z.cells.size = 1)
    (ys : List α) (A0 : Option Addr) (c0 : Nat) (hs : a.eval s = .slice A0 ys.length c0) (hown : w.ownsRow base e 1 (.slice A0 ys.length c0) ys.length (ys.map enc))
    (xs : List α) (A : Option Addr) (c B : Nat) (hx : a.eval x = .slice A xs.length c) (hr : Rd enc w B A xs) (h63 : ys.length + xs.length ≤ maxLen) (hbytes : (ys.length + xs.length) * bytes ≤ 140737488355328) (hbase : base ≤ w.heap.size)
    (h : ∀ (S : List α) (A' : Option Addr) (c' : Nat) (w' : World), S = ys ++ xs → w'.ownsRow base e 1 (.slice A' S.length c') S.length (S.map enc) → Below base w w' → w.grownBy w' (Value.slice A0 ys.length c0).ownBlock → K (a.put o.dst (.slice A' S.length c')) w') :
    if Region.wanted o (yielded ops a.tmps) = true then Oper.wp P o a w K Q else E := by
  have hw : Region.wanted o (yielded ops a.tmps) = true := by simp [Region.wanted, hgd]
  rw [if_pos hw]
  obtain ⟨A', c', w', hrun, h2, h3, h4, _⟩ := run_app (P := P) enc h1 w base t o.type e z bytes ht hinfo hzs ys A0 c0 hown xs A c B hr h63 hbytes hbase
  unfold Oper.wp execOp
  simp only [ho, resolve, invoke, builtin, Sem.run_bind, Sem.run_pure, Result.andThen_ok, List.map_toArray, List.map_cons, List.map_nil, hs, hx, hrun]
  exact h _ A' c' w' rfl h2 h3 h4
theorem own_far {w w' : World} {base n : Nat} {e : TypeId} {v : Value} {vs : List Value} {row : Option Nat} (h : w.ownsRow base e 1 v n vs) (hg : w.grownBy w' row) (hr : ∀ k, row = some k → k < base) : w'.ownsRow base e 1 v n vs := by
  refine ⟨h.1, ?_⟩
  rcases h.2 with hn | ⟨g, cap, cur, hv, hg2, hh, r⟩
  · exact .inl hn
  · exact .inr ⟨g, cap, cur, hv, hg2, (hg.block g (Array.getElem?_eq_some_iff.1 hh).1 (by intro e; have := hr g e.symm; omega)).trans hh, r⟩
end Go.Proofs.YtjkhdfncahhnoaaGreat
