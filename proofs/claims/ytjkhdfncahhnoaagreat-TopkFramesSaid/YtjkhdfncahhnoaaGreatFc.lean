
/- Fc: texts joined: LebE FsM CrcE TkM HpM HpA HpB HpC HpD TkN HpN TkA Law Arg. -/
import Derived.Test.YtjkhdfncahhnoaaGreatFb
import Derived.Test.YtjkhdfncahhnoaaGreatFa
import Derived.Deep.RegionHeld3
import Derived.Laws.Cover3
import Derived.Sort.LotA
import Derived.Shelf.SlSortCmp.QuietGrown
import Derived.StillTailTactics
import Derived.Shelf.SlSortCmp.InsertionK
import Derived.Test.YtjkhdfncahhnoaaGreatRows
import Derived.WalkKit
import Derived.ProofKit
import Derived.OpenShut
import Derived.Carry
/- One number got, signed; many got; lists of numbers that are the same. -/
namespace Go.Proofs.YtjkhdfncahhnoaaGreat
open Go.RowKit
set_option maxHeartbeats 400000
set_option maxRecDepth 100000
set_option linter.unusedVariables false
/-- A call's answer: numbers of the call's own, a place, an error. -/
def OwnNums (r : List Int × Int × Int) (w : World) (e : Ending) (w' : World) : Prop :=
  ∃ A c, e = .returned (.tuple #[.slice A r.1.length c, .int .i64 r.2.1, .int .i64 r.2.2]) ∧ w'.ownsRow w.heap.size 47 1 (.slice A r.1.length c) r.1.length (r.1.map (Value.int .u64)) ∧ Below w.heap.size w w'
def mnyV (b : List Int) (many a : Int) : List Int × Int × Int := if many < 0 then ([], 0, 1) else mny b many.toNat a []
def takN (b : List Int) (a : Int) : Int := if getE b a = 0 then zagI (getN b a) else 0
theorem leb_Many {A : Option Addr} {c : Nat} (b : List Int) (hb : b.length ≤ c) (hc : c ≤ 9223372036854775807) (ub : U8s b) (a many : Int) (ha : I64 a) (hm0 : -9223372036854775808 ≤ many) (hm : many ≤ 1000000) (w : World) (ra : Rd (Value.int .u8) w w.heap.size A b) :
    Calls Tryz.prog 112 #[.slice A b.length c, .int .i64 a, .int .i64 many] w (OwnNums (mnyV b many a) w) := by
  by_cases h1 : many < 0
  · have e : mnyV b many a = ([], 0, 1) := if_pos h1
    rw [e]
    clear e ra ub
    go_enter Tryz.func112, Tryz.ntmps112
    go_wp2_with fail
    go_ret3
    exact ⟨none, 0, rfl, own_nil _ _ _, Below.refl _ _⟩
  obtain ⟨r, hr⟩ : ∃ r, mnyV b many a = r := ⟨_, rfl⟩
  rw [hr]
  unfold mnyV at hr
  rw [if_neg h1] at hr
  obtain ⟨M, hM⟩ : ∃ M : Nat, many.toNat = M := ⟨_, rfl⟩
  have hMm : many = (M : Int) := by omega
  rw [hM] at hr
  subst hMm
  have HRR := hid hr
  have HA := hid ra
  have HU := hid ub
  clear hr ra ub hM h1
  go_enter Tryz.func112, Tryz.ntmps112
  go_wp2_with fail
  go_loopw [1, 9, 16] (fun p t i wr => ∃ (k : Nat) (x : Int) (S : List Int) (A2 : Option Addr) (c2 : Nat), k ≤ M ∧ i = .int .i64 k ∧ p = .int .i64 x ∧ I64 x ∧ t = .slice A2 S.length c2 ∧ S.length = k ∧ mny b (M - k) x S = r ∧ wr.ownsRow w.heap.size 47 1 (.slice A2 S.length c2) S.length (S.map (Value.int .u64)) ∧ Below w.heap.size w wr) (fun _ _ i _ => M - (intOf i).toNat)
  case atStart => exact ⟨0, a, [], none, 0, by omega, rfl, rfl, ha, rfl, rfl, HRR.out, own_nil _ _ _, Below.refl _ _⟩
  case round =>
    obtain ⟨k, x, S, A2, c2, hk, rfl, rfl, hx, rfl, hSk, hs, ho, hbel⟩ := hrel
    have hSl : S.length ≤ 1000000 := by omega
    have HS := hid hs
    have HO := hid ho
    have HK := hid hSk
    clear hs ho hSk
    by_cases hlt : k < M
    · have CG := hid (leb_Get (A := A) (c := c) b hb hc HU.out x hx)
      have HX := hid (fun h => getA_i64 (b := b) (a := x) (c := c) HU.out hb hc h)
      have HM : Hid ((getE b x = 0 → mny b (M - (k + 1)) (getA b x) (S ++ [getN b x]) = r) ∧ (getE b x ≠ 0 → r = ([], 0, getE b x))) := by
        have h := HS.out
        rw [show M - k = (M - (k + 1)) + 1 by omega, mny] at h
        exact ⟨fun e => by rw [if_pos e] at h; exact h, fun e => by rw [if_neg e] at h; exact h.symm⟩
      obtain ⟨N, hN⟩ : ∃ N, getN b x = N := ⟨_, rfl⟩
      obtain ⟨E, hE⟩ : ∃ N, getE b x = N := ⟨_, rfl⟩
      obtain ⟨X, hX⟩ : ∃ N, getA b x = N := ⟨_, rfl⟩
      rw [hN, hE, hX] at HM CG
      rw [hE, hX] at HX
      clear hN hE hX
      have hr2 := HA.out.below hbel
      go_wp2_with fail
      refine (CG.out _ hr2).mono ?_
      rintro _ _ ⟨rfl, rfl⟩
      clear hr2
      by_cases her : E = 0
      · have hX := HX.out her
        have h2 := HM.out.1 her
        have HM2 := hid h2
        clear h2
        subst her
        have h0 := own_on HO.out ((Below.refl wr.heap.size wr).alloc (Nat.le_refl _) (.cells #[.int .u64 N] 47))
        have hr0 : Rd (Value.int .u64) (wr.alloc (.cells #[.int .u64 N] 47)) _ (some ⟨wr.heap.size, 0, none⟩) [N] := rd_one (one_cell wr (.int .u64 N) 47).1
        go_wp2_with (at_builtin; refine wpList_app (Value.int .u64) (fun _ => rfl) _ rfl _ _ 26 rfl w.heap.size 47 (.int .u64 0) 8 Tryz.underlying26 info_u64 rfl S _ _ rfl h0 [N] _ 1 _ rfl hr0 (by simp [maxLen]; omega) (by simp; omega) (by have := hbel.size; simp; omega) ?_)
        rintro S' A' c' w1 hS' ho hb1 _
        have HS' := hid hS'
        have HO' := hid ho
        clear hS' ho h0 hr0
        go_wp2_with fail
        go_roundw
        case rel =>
          refine ⟨k + 1, X, S', A', c', by omega, by go_num, rfl, hX, rfl, ?_, ?_, HO'.out, (hbel.alloc hbel.size _).trans hb1⟩
          · rw [HS'.out, List.length_append, HK.out]; rfl
          · rw [HS'.out]; exact HM2.out
        case measure => simp [intOf]; omega
      · have hne : (E != 0) = true := by simpa using her
        have HR2 := hid (HM.out.2 her)
        go_wp2_with fail
        go_ret3
        rw [HR2.out]
        exact ⟨none, 0, rfl, own_nil _ _ _, hbel⟩
    · obtain rfl : k = M := by omega
      have HR2 : Hid (r = (S, x, 0)) := by
        have h := HS.out
        rw [Nat.sub_self, mny] at h
        exact h.symm
      go_wp2_with fail
      go_ret3
      rw [HR2.out]
      exact ⟨A2, c2, rfl, HO.out, hbel⟩
end Go.Proofs.YtjkhdfncahhnoaaGreat
/- What the program's reader makes of a text, step by step; what it reads is what the document reads. Plain words. -/
namespace Go.Proofs.YtjkhdfncahhnoaaGreat
set_option maxRecDepth 100000
set_option linter.unusedVariables false
/-- A number of 64 bits without a sign, as one with a sign. -/
def w64 (n : Int) : Int := if n ≤ 9223372036854775807 then n else n - 18446744073709551616
/-- The place up to which is read, and whether it is none. -/
abbrev Rs := Nat × Bool
def pas (σ : Rs) (a e : Int) : Rs := if e = 0 then (a.toNat, σ.2) else (σ.1, true)
def tak (o : List Int) (σ : Rs) (m : Int) : List Int × Rs := if (o.length : Int) - (σ.1 : Int) < m then ([], (σ.1, true)) else ((o.drop σ.1).take m.toNat, (σ.1 + m.toNat, σ.2))
def one2 (o : List Int) (σ : Rs) : Int × Rs := ((tak o σ 1).1.headD 0, (tak o σ 1).2)
def num2 (o : List Int) (σ : Rs) : Int × Rs := (w64 (getN o σ.1), pas σ (getA o σ.1) (getE o σ.1))
def nms2 (o : List Int) (σ : Rs) (m : Int) : List Int × Rs := ((mnyV o m σ.1).1.map zagI, pas σ (mnyV o m σ.1).2.1 (mnyV o m σ.1).2.2)
def sgs2 (o : List Int) (σ : Rs) (m : Int) : List Bool × Rs := (bitV 1 m (tak o σ (bysV 1 m)).1, pas (tak o σ (bysV 1 m)).2 ((tak o σ (bysV 1 m)).2.1 : Int) (bitE 1 m (tak o σ (bysV 1 m)).1))
def pln2 (o : List Int) (σ : Rs) (wd m : Int) : List Int × Rs := (uwvV wd m (tak o σ (bysV wd m)).1, pas (tak o σ (bysV wd m)).2 ((tak o σ (bysV wd m)).2.1 : Int) (bitE wd m (tak o σ (bysV wd m)).1))
def gix2 (o : List Int) (σ : Rs) (dim : Int) : List Int × Rs := ((gixR dim o σ.1).1, pas σ (gixR dim o σ.1).2.1 (gixR dim o σ.1).2.2)
def dns2 (o : List Int) (dim : Int) (σ : Rs) : SentV × Rs := (⟨0, dim, [], (nms2 o σ dim).1, 0, 0, [], []⟩, (nms2 o σ dim).2)
def top2 (o : List Int) (dim : Int) (σ : Rs) : SentV × Rs :=
  (⟨1, dim, (gix2 o σ dim).1, (nms2 o (gix2 o σ dim).2 (gix2 o σ dim).1.length).1, 0, 0, [], []⟩, (nms2 o (gix2 o σ dim).2 (gix2 o σ dim).1.length).2)
def lev2 (o : List Int) (dim : Int) (σ : Rs) : SentV × Rs :=
  (⟨2, dim, [], [], (num2 o σ).1, (one2 o (num2 o σ).2).1, (pln2 o (one2 o (num2 o σ).2).2 (one2 o (num2 o σ).2).1 dim).1, (sgs2 o (pln2 o (one2 o (num2 o σ).2).2 (one2 o (num2 o σ).2).1 dim).2 dim).1⟩,
    (sgs2 o (pln2 o (one2 o (num2 o σ).2).2 (one2 o (num2 o σ).2).1 dim).2 dim).2)
def sgn2 (o : List Int) (dim : Int) (σ : Rs) : SentV × Rs := (⟨3, dim, [], [], (num2 o σ).1, 0, [], (sgs2 o (num2 o σ).2 dim).1⟩, (sgs2 o (num2 o σ).2 dim).2)
def rst2 (o : List Int) (sch dim : Int) (σ : Rs) : SentV × Rs :=
  if sch = 0 then dns2 o dim σ else if sch = 1 then top2 o dim σ else if sch = 2 then lev2 o dim σ else if sch = 3 then sgn2 o dim σ else (⟨sch, dim, [], [], 0, 0, [], []⟩, σ)
def vec2 (o : List Int) (σ : Rs) : SentV × Rs := rst2 o (one2 o σ).1 (num2 o (one2 o σ).2).1 (num2 o (one2 o σ).2).2
def bdy2 (o : List Int) (knd frm stp : Int) (σ : Rs) : FrameV × Rs := if knd = 1 then (⟨knd, frm, stp, (vec2 o σ).1⟩, (vec2 o σ).2) else (⟨knd, frm, stp, zeroS⟩, σ)
def hed2 (o : List Int) (σ : Rs) : FrameV × Rs :=
  bdy2 o (one2 o σ).1 (num2 o (one2 o σ).2).1 (num2 o (num2 o (one2 o σ).2).2).1 (num2 o (num2 o (one2 o σ).2).2).2
def frm2 (o : List Int) : FrameV × Rs := hed2 o ((one2 o (0, false)).2.1, (one2 o (0, false)).2.2 || ((one2 o (0, false)).1 != 1))
def fin2 (o : List Int) (r : FrameV × Rs) : FrameV × Int := if r.2.2 = true ∨ r.2.1 < o.length ∨ chkF r.1 ≠ 0 then (zeroF, 6) else (r.1, 0)
def prR (b : List Int) : FrameV × Int := if openE b ≠ 0 then (zeroF, openE b) else fin2 (openV b) (frm2 (openV b))
/-- What was read was written. -/
theorem pas_back {σ : Rs} {a e : Int} {a' : Nat} (h : pas σ a e = (a', false)) : e = 0 ∧ a.toNat = a' ∧ σ.2 = false := by
  unfold pas at h
  split at h
  · rename_i he
    simp only [Prod.mk.injEq] at h
    exact ⟨he, h.1, h.2⟩
  · simp at h
theorem tak_back {o : List Int} {a a' : Nat} {z : Bool} {m : Int} {p : List Int} (hm : 0 ≤ m) (ha : a ≤ o.length) (h : tak o (a, z) m = (p, (a', false))) : z = false ∧ a' ≤ o.length ∧ (p.length : Int) = m ∧ o.drop a = p ++ o.drop a' := by
  unfold tak at h
  split at h
  · simp at h
  · rename_i hn
    simp only [Prod.mk.injEq] at h
    obtain ⟨rfl, rfl, rfl⟩ := h
    simp only at hn
    refine ⟨rfl, by omega, ?_, ?_⟩
    · rw [List.length_take, List.length_drop]; omega
    · rw [← List.drop_drop, List.take_append_drop]
theorem one2_back {o : List Int} {a a' : Nat} {z : Bool} {v : Int} (ha : a ≤ o.length) (h : one2 o (a, z) = (v, (a', false))) : z = false ∧ a' ≤ o.length ∧ o.drop a = v :: o.drop a' := by
  unfold one2 at h
  obtain ⟨p, t, ht⟩ : ∃ p t, tak o (a, z) 1 = (p, t) := ⟨_, _, rfl⟩
  rw [ht] at h
  simp only [Prod.mk.injEq] at h
  obtain ⟨rfl, rfl⟩ := h
  obtain ⟨h1, h2, h3, h4⟩ := tak_back (by decide) ha ht
  refine ⟨h1, h2, ?_⟩
  match p, h3 with
  | [x], _ => simpa using h4
theorem num2_back {o : List Int} {a a' : Nat} {z : Bool} {v : Int} (uo : U8s o) (ha : a ≤ o.length) (h : num2 o (a, z) = (v, (a', false))) : z = false ∧ a' ≤ o.length ∧ ∃ n, U64 n ∧ v = w64 n ∧ o.drop a = lebI n ++ o.drop a' := by
  unfold num2 at h
  simp only [Prod.mk.injEq] at h
  obtain ⟨rfl, h⟩ := h
  obtain ⟨h1, h2, h3⟩ := pas_back h
  obtain ⟨_, hu, j, hj, hA, ht⟩ := get_ok uo h1
  rw [Int.toNat_natCast] at hj hA ht
  rw [hA, Int.toNat_natCast] at h2
  subst h2
  refine ⟨h3, hj, _, hu, rfl, ?_⟩
  rw [← ht, ← List.drop_drop, List.take_append_drop]
theorem mny_back {o : List Int} (uo : U8s o) : ∀ (k x : Nat) (S V : List Int) (y : Int), x ≤ o.length → mny o k x S = (V, y, 0) → ∃ (l : List Int) (y' : Nat), V = S ++ l ∧ l.length = k ∧ U64s l ∧ y = (y' : Int) ∧ y' ≤ o.length ∧ o.drop x = encs l ++ o.drop y'
  | 0, x, S, V, y, hx, h => by
    rw [mny] at h
    simp only [Prod.mk.injEq] at h
    obtain ⟨rfl, rfl, _⟩ := h
    exact ⟨[], x, by simp, rfl, by intro n hn; simp at hn, rfl, hx, by simp [encs]⟩
  | k + 1, x, S, V, y, hx, h => by
    rw [mny] at h
    split at h
    · rename_i h1
      obtain ⟨_, hu, j, hj, hA, ht⟩ := get_ok uo h1
      rw [Int.toNat_natCast] at hj hA ht
      rw [hA] at h
      obtain ⟨l, y', e1, e2, e3, e4, e5, e6⟩ := mny_back uo k (x + j) _ V y hj h
      refine ⟨getN o x :: l, y', by rw [e1, List.append_assoc]; rfl, by rw [List.length_cons, e2], ?_, e4, e5, ?_⟩
      · intro n hn
        rcases List.mem_cons.1 hn with rfl | hn
        · exact hu
        · exact e3 n hn
      · rw [encs_cons, List.append_assoc, ← e6, ← ht, ← List.drop_drop, List.take_append_drop]
    · rename_i h1
      simp only [Prod.mk.injEq] at h
      exact absurd h.2.2 h1
theorem zigs_back {l : List Int} (h : U64s l) : sgnd (l.map zagI) = encs l := by
  unfold sgnd
  rw [List.map_map]
  have e : l.map (zigI ∘ zagI) = l := by
    refine (List.map_congr_left fun x hx => ?_).trans (List.map_id l)
    exact zig_zag (h x hx).1
  rw [e]
theorem nms2_back {o : List Int} {a a' : Nat} {z : Bool} {m : Int} {V : List Int} (uo : U8s o) (ha : a ≤ o.length) (h : nms2 o (a, z) m = (V, (a', false))) : z = false ∧ a' ≤ o.length ∧ (V.length : Int) = m ∧ (∀ x ∈ V, I64 x) ∧ o.drop a = sgnd V ++ o.drop a' := by
  unfold nms2 at h
  obtain ⟨l, y, e, hm⟩ : ∃ l y e, mnyV o m a = (l, y, e) := ⟨_, _, _, rfl⟩
  simp only [hm, Prod.mk.injEq] at h
  obtain ⟨rfl, h⟩ := h
  obtain ⟨rfl, h2, h3⟩ := pas_back h
  unfold mnyV at hm
  split at hm
  · simp at hm
  · rename_i hm0
    obtain ⟨l2, y', e1, e2, e3, e4, e5, e6⟩ := mny_back uo _ _ _ _ _ ha hm
    rw [List.nil_append] at e1
    subst e1
    subst e4
    rw [Int.toNat_natCast] at h2
    subst h2
    refine ⟨h3, e5, by rw [List.length_map, e2]; omega, fun x hx => ?_, by rw [zigs_back e3]; exact e6⟩
    obtain ⟨n, hn, rfl⟩ := List.mem_map.1 hx
    exact zag_i64 (e3 n hn)
theorem bysV_pos (w m : Int) : 0 ≤ bysV w m := by
  unfold bysV
  split
  · rename_i h
    have := bys_ok h
    have := Int.mul_nonneg this.1.1 this.2.1
    omega
  · omega
theorem sgs2_back {o : List Int} {a a' : Nat} {z : Bool} {m : Int} {g : List Bool} (uo : U8s o) (ha : a ≤ o.length) (h : sgs2 o (a, z) m = (g, (a', false))) : z = false ∧ a' ≤ o.length ∧ (g.length : Int) = m ∧ o.drop a = sgnV g ++ o.drop a' := by
  unfold sgs2 at h
  obtain ⟨p, t, ht⟩ : ∃ p t, tak o (a, z) (bysV 1 m) = (p, t) := ⟨_, _, rfl⟩
  obtain ⟨t1, t2⟩ := t
  simp only [ht, Prod.mk.injEq] at h
  obtain ⟨rfl, h⟩ := h
  obtain ⟨h1, h2, h3⟩ := pas_back h
  rw [Int.toNat_natCast] at h2
  simp only at h3
  subst h2
  subst h3
  obtain ⟨q1, q2, q3, q4⟩ := tak_back (bysV_pos _ _) ha ht
  have up : U8s p := fun x hx => uo x (List.mem_of_mem_drop (i := a) (by rw [q4]; simp [hx]))
  obtain ⟨s1, s2⟩ := sgn_back up h1
  exact ⟨q1, q2, s2, by rw [s1]; exact q4⟩
theorem pln2_back {o : List Int} {a a' : Nat} {z : Bool} {wd m : Int} {l : List Int} (uo : U8s o) (ha : a ≤ o.length) (h : pln2 o (a, z) wd m = (l, (a', false))) : z = false ∧ a' ≤ o.length ∧ (l.length : Int) = m ∧ U64s l ∧ o.drop a = wevV wd l ++ o.drop a' := by
  unfold pln2 at h
  obtain ⟨p, t, ht⟩ : ∃ p t, tak o (a, z) (bysV wd m) = (p, t) := ⟨_, _, rfl⟩
  obtain ⟨t1, t2⟩ := t
  simp only [ht, Prod.mk.injEq] at h
  obtain ⟨rfl, h⟩ := h
  obtain ⟨h1, h2, h3⟩ := pas_back h
  rw [Int.toNat_natCast] at h2
  simp only at h3
  subst h2
  subst h3
  obtain ⟨q1, q2, q3, q4⟩ := tak_back (bysV_pos _ _) ha ht
  have up : U8s p := fun x hx => uo x (List.mem_of_mem_drop (i := a) (by rw [q4]; simp [hx]))
  exact ⟨q1, q2, uwv_len h1, uwvV_u64 _, by rw [(wev_uwv up h1).2]; exact q4⟩
theorem gix_backK {dim : Int} {b m : List Int} {a : Int} {k : Nat} (ub : U8s b) (h : gixR dim b k = (m, a, 0)) (hk : k ≤ b.length) : chkE dim m = 0 ∧ ∃ j : Nat, a = ((k + j : Nat) : Int) ∧ k + j ≤ b.length ∧ pixV dim m = (b.drop k).take j := by
  unfold gixR at h
  split at h
  · simp at h
  · rename_i hd
    split at h
    · rename_i h1
      simp only [Prod.mk.injEq] at h
      exact absurd h.2.2 h1
    · rename_i h1
      have h1 : getE b k = 0 := by omega
      split at h
      · simp at h
      · rename_i h2
        obtain ⟨_, hu, j1, hj1, hA, ht⟩ := get_ok ub h1
        unfold U64 at hu
        rw [Int.toNat_natCast] at hj1 ht hA
        rw [hA] at h
        obtain ⟨i1, i2, i3, j2, i4, i5, i6⟩ := ixL_back ub _ _ _ m a h hj1 (by omega)
        have hp : plcP dim m := ⟨by omega, by omega, (List.pairwise_cons.1 i2).2, fun n hn => ⟨by have := (List.pairwise_cons.1 i2).1 n hn; omega, i3 n hn⟩⟩
        refine ⟨chk_ok.2 hp, j1 + j2, by rw [i5]; congr 1; omega, by omega, ?_⟩
        unfold pixV
        rw [if_pos (chk_ok.2 hp)]
        unfold putL
        rw [encs_cons, ← i6]
        rw [i1, show ((getN b k).toNat : Int) = getN b k by omega, ← ht, List.take_add, List.drop_drop]
theorem gix2_back {o : List Int} {a a' : Nat} {z : Bool} {dim : Int} {L : List Int} (uo : U8s o) (ha : a ≤ o.length) (h : gix2 o (a, z) dim = (L, (a', false))) : z = false ∧ a' ≤ o.length ∧ chkE dim L = 0 ∧ o.drop a = pixV dim L ++ o.drop a' := by
  unfold gix2 at h
  obtain ⟨l, y, e, hm⟩ : ∃ l y e, gixR dim o a = (l, y, e) := ⟨_, _, _, rfl⟩
  simp only [hm, Prod.mk.injEq] at h
  obtain ⟨rfl, h⟩ := h
  obtain ⟨rfl, h2, h3⟩ := pas_back h
  obtain ⟨q1, j, rfl, q2, q3⟩ := gix_backK uo hm ha
  rw [Int.toNat_natCast] at h2
  subst h2
  exact ⟨h3, q2, q1, by rw [q3, ← List.drop_drop, List.take_append_drop]⟩
theorem w64_pos {n : Int} (hu : U64 n) (h : 0 ≤ w64 n) : w64 n = n := by
  unfold w64 at h ⊢
  unfold U64 at hu
  split at h
  · rw [if_pos (by assumption)]
  · omega
theorem w64_i64 {n : Int} (hu : U64 n) : I64 (w64 n) := by
  unfold w64 I64
  unfold U64 at hu
  split <;> omega
end Go.Proofs.YtjkhdfncahhnoaaGreat
/- A text opened, by the program and by the document. -/
namespace Go.Proofs.YtjkhdfncahhnoaaGreat
open Go.RowKit
set_option maxHeartbeats 400000
set_option maxRecDepth 100000
set_option linter.unusedVariables false
theorem equal_quad (a b c d a' b' c' d' : Int) (w : World) :
    (Op.equalIn 10000 79 (.agg #[.int .u8 a, .int .u8 b, .int .u8 c, .int .u8 d]) (.agg #[.int .u8 a', .int .u8 b', .int .u8 c', .int .u8 d'])).run Tryz.prog w = .ok (eqB [a, b, c, d] [a', b', c', d']) w := by
  have h0 : ∀ (x y z t : Int) (w : World), (part 5 #[.int .u8 x, .int .u8 y, .int .u8 z, .int .u8 t] 0).run Tryz.prog w = .ok (.int .u8 x) w := fun _ _ _ _ _ => by kernel_rfl
  have h1 : ∀ (x y z t : Int) (w : World), (part 5 #[.int .u8 x, .int .u8 y, .int .u8 z, .int .u8 t] 1).run Tryz.prog w = .ok (.int .u8 y) w := fun _ _ _ _ _ => by kernel_rfl
  have h2 : ∀ (x y z t : Int) (w : World), (part 5 #[.int .u8 x, .int .u8 y, .int .u8 z, .int .u8 t] 2).run Tryz.prog w = .ok (.int .u8 z) w := fun _ _ _ _ _ => by kernel_rfl
  have h3 : ∀ (x y z t : Int) (w : World), (part 5 #[.int .u8 x, .int .u8 y, .int .u8 z, .int .u8 t] 3).run Tryz.prog w = .ok (.int .u8 t) w := fun _ _ _ _ _ => by kernel_rfl
  have hs : (sizeOf 5).run Tryz.prog w = .ok 1 w := by kernel_rfl
  rw [show (10000 : Nat) = 9998 + 1 + 1 from rfl]
  unfold Op.equalIn
  simp only [Sem.run_bind, run_underlying Tryz.underlying79, Result.andThen_ok, hs]
  simp only [Std.Legacy.Range.forIn_eq_forIn_range', Std.Legacy.Range.size]
  simp only [Nat.sub_zero, Nat.reduceAdd, Nat.reduceSub, Nat.reduceDiv, List.range', List.forIn_cons, List.forIn_nil, Sem.run_bind]
  have h4 : ∀ x y : Int, (Op.equalIn 9999 5 (.int .u8 x) (.int .u8 y)).run Tryz.prog w = .ok (x == y) w := fun x y => run_equalIn_int w 9998 _ _ _ _ _ Tryz.underlying5
  simp only [Nat.zero_mul, Nat.one_mul, h0, h4, Result.andThen_ok]
  unfold eqB
  by_cases e0 : a = a'
  · subst e0
    by_cases e1 : b = b'
    · subst e1
      by_cases e2 : c = c'
      · subst e2
        by_cases e3 : d = d' <;> simp [h1, h2, h3, h4, e3]
      · simp [h1, h2, h4, e2]
    · simp [h1, h4, e1]
  · simp [e0]
attribute [local go_sem] equal_quad
theorem seen_four {b : List Int} {p : Nat} (hp : p + 4 = b.length) : ∃ x0 x1 x2 x3, b.drop p = [x0, x1, x2, x3] ∧ b[p]? = some x0 ∧ b[p + 1]? = some x1 ∧ b[p + 2]? = some x2 ∧ b[p + 3]? = some x3 := by
  have hl : (b.drop p).length = 4 := by rw [List.length_drop]; omega
  match hd : b.drop p, hl with
  | [x0, x1, x2, x3], _ =>
    have at_ : ∀ j, b[p + j]? = ([x0, x1, x2, x3] : List Int)[j]? := fun j => by rw [← hd, List.getElem?_drop]
    exact ⟨x0, x1, x2, x3, rfl, at_ 0, at_ 1, at_ 2, at_ 3⟩
theorem crc_Open {A : Option Addr} {c : Nat} (b : List Int) (hb : b.length ≤ 1000000) (hc : b.length ≤ c) (ub : U8s b) (w : World) (ra : Rd (Value.int .u8) w w.heap.size A b) :
    Calls Tryz.prog 19 #[.slice A b.length c] w (OwnE 5 .u8 w.heap.size (openV b) (openE b) w) := by
  unfold openV openE
  by_cases h : 65536 < b.length
  · rw [if_pos (Or.inl h), if_pos h]
    clear ra ub
    go_enter Tryz.func19, Tryz.ntmps19
    go_wp2_with fail
    go_ret2
    exact .nil (Below.refl _ _)
  by_cases h4 : b.length < 4
  · rw [if_pos (Or.inr (Or.inl h4)), if_neg h, if_pos h4]
    clear ra ub
    go_enter Tryz.func19, Tryz.ntmps19
    go_wp2_with fail
    go_ret2
    exact .nil (Below.refl _ _)
  obtain ⟨p, hp⟩ : ∃ p, p + 4 = b.length := ⟨b.length - 4, by omega⟩
  obtain ⟨x0, x1, x2, x3, hd, r0, r1, r2, r3⟩ := seen_four hp
  obtain ⟨b1, o1, _, rfl, l1, hr0, c0⟩ := ra.at_ (k := p) (by omega)
  obtain ⟨b2, o2, e2, _, c1⟩ := ra _ _ r1
  injection e2 with e2
  injection e2 with e2 e3
  subst e2 e3
  obtain ⟨b2, o2, e2, _, c2⟩ := ra _ _ r2
  injection e2 with e2
  injection e2 with e2 e3
  subst e2 e3
  obtain ⟨b2, o2, e2, _, c3⟩ := ra _ _ r3
  injection e2 with e2
  injection e2 with e2 e3
  subst e2 e3
  obtain rfl : x0 = _ := Option.some.inj (r0.symm.trans hr0)
  clear r0 r1 r2 r3 hr0
  have c1 : w.cell? ⟨b1, o1 + p + 1, none⟩ = some (.int .u8 x1) := c1
  have c2 : w.cell? ⟨b1, o1 + p + 2, none⟩ = some (.int .u8 x2) := c2
  have c3 : w.cell? ⟨b1, o1 + p + 3, none⟩ = some (.int .u8 x3) := c3
  have hpe : b.length - 4 = p := by omega
  have hcp : c ≠ p := by omega
  have hse : sealedB b = eqB [x0, x1, x2, x3] [tl (sumN (b.take p)) 4 0, tl (sumN (b.take p)) 4 1, tl (sumN (b.take p)) 4 2, tl (sumN (b.take p)) 4 3] := by
    unfold sealedB sealedB.eqL eqB
    rw [hpe, hd, tl4]
  rw [hpe, hse]
  clear hse hd hpe
  have hs1 := fun W => run_upto (P := Tryz.prog) 33 Tryz.underlying33 Tryz.sizeOf5 (some ⟨b1, o1, none⟩) b.length c p (by omega) W
  have hs2 := fun W => run_from (P := Tryz.prog) 33 Tryz.underlying33 Tryz.sizeOf5 (some ⟨b1, o1, none⟩) b.length c p (by omega) (by omega) W
  have e2 : cutA (some ⟨b1, o1, none⟩) p c = some ⟨b1, o1 + p, none⟩ := by unfold cutA; rw [if_neg hcp]; simp [Go.WideShapes.add_plain]
  rw [e2, show b.length - p = 4 by omega] at hs2
  have rT := ra.cut0 hc p
  have uT := ub.take p
  have lT : (b.take p).length = p := by rw [List.length_take]; omega
  obtain ⟨T, hT⟩ : ∃ T, b.take p = T := ⟨_, rfl⟩
  obtain ⟨A3, hA3⟩ : ∃ A3, cutA (some ⟨b1, o1, none⟩) 0 c = A3 := ⟨_, rfl⟩
  rw [hA3] at rT hs1
  rw [hT] at rT uT lT ⊢
  have CT := hid (fun W (hk : Below w.heap.size w W) => crc_tail (A := A3) (c := c) T (by omega) uT W ((rT.below hk).more hk.size))
  have CL := hid (fun W (hk : Below w.heap.size w W) => clone_any (A := A3) (c := c) T (by omega) W (rT.below hk))
  rw [lT] at CT CL
  obtain ⟨s, hs⟩ : ∃ s, sumN T = s := ⟨_, rfl⟩
  rw [hs] at CT ⊢
  obtain ⟨y0, e0⟩ : ∃ y, tl s 4 0 = y := ⟨_, rfl⟩
  obtain ⟨y1, e1⟩ : ∃ y, tl s 4 1 = y := ⟨_, rfl⟩
  obtain ⟨y2, e2⟩ : ∃ y, tl s 4 2 = y := ⟨_, rfl⟩
  obtain ⟨y3, e3⟩ : ∃ y, tl s 4 3 = y := ⟨_, rfl⟩
  rw [e0, e1, e2, e3] at CT ⊢
  have hm : (b.length : Int) - 4 = (p : Int) := by omega
  have LT := hid lT
  have HP := hid hp
  clear e0 e1 e2 e3 hs hT hA3 lT rT uT ra ub hp hcp
  obtain ⟨q, hq⟩ : ∃ q, eqB [y0, y1, y2, y3] [x0, x1, x2, x3] = q := ⟨_, rfl⟩
  have hq' : eqB [x0, x1, x2, x3] [y0, y1, y2, y3] = q := by rw [← hq]; unfold eqB; simp only [eq_comm]
  rw [hq']
  clear hq'
  have lx := l1
  have hat := fun W => run_arrayAt (P := Tryz.prog) W 79 _ 4 (some ⟨b1, o1 + p, none⟩) 4 (c - p) Tryz.underlying79 (by omega)
  cases q with
  | false =>
    rw [if_pos (Or.inr (Or.inr rfl)), if_neg h, if_neg h4, if_pos rfl]
    have h65 : ¬ 65536 < b.length := h
    go_enter Tryz.func19, Tryz.ntmps19
    go_wp2_with fail
    go_region_held3 (fun w' => w'.cell? ⟨b1, o1 + p, none⟩ = some (.int .u8 x0) ∧ w'.cell? ⟨b1, o1 + p + 1, none⟩ = some (.int .u8 x1) ∧ w'.cell? ⟨b1, o1 + p + 2, none⟩ = some (.int .u8 x2) ∧ w'.cell? ⟨b1, o1 + p + 3, none⟩ = some (.int .u8 x3) ∧ Below w.heap.size w w') (first | exact ⟨c0, c1, c2, c3, (Below.refl _ _).drew⟩ | (have hk := below_step ((Below.refl _ _).drew) hb1 (Nat.le_refl _); exact ⟨(hk.cell lx).trans c0, (hk.cell lx).trans c1, (hk.cell lx).trans c2, (hk.cell lx).trans c3, hk⟩) | go_keep)
      (first | (go_at_call 41; refine (CT.out _ (by go_grown)).mono ?_; rintro e w1 ⟨rfl, hb1⟩))
    all_goals
      have hk := below_step ((Below.refl _ _).drew) hb1 (Nat.le_refl _)
      clear c0 c1 c2 c3 hs1 hs2 hm hat hq e2
      go_wp2_with fail
      go_ret2
      exact .nil hk
  | true =>
    rw [if_neg (by simp only [Bool.true_eq_false, or_false]; omega), if_neg h, if_neg h4, if_neg (by simp)]
    go_enter Tryz.func19, Tryz.ntmps19
    go_wp2_with fail
    go_region_held3 (fun w' => w'.cell? ⟨b1, o1 + p, none⟩ = some (.int .u8 x0) ∧ w'.cell? ⟨b1, o1 + p + 1, none⟩ = some (.int .u8 x1) ∧ w'.cell? ⟨b1, o1 + p + 2, none⟩ = some (.int .u8 x2) ∧ w'.cell? ⟨b1, o1 + p + 3, none⟩ = some (.int .u8 x3) ∧ Below w.heap.size w w') (first | exact ⟨c0, c1, c2, c3, (Below.refl _ _).drew⟩ | (have hk := below_step ((Below.refl _ _).drew) hb1 (Nat.le_refl _); exact ⟨(hk.cell lx).trans c0, (hk.cell lx).trans c1, (hk.cell lx).trans c2, (hk.cell lx).trans c3, hk⟩) | go_keep)
      (first | (go_at_call 41; refine (CT.out _ (by go_grown)).mono ?_; rintro e w1 ⟨rfl, hb1⟩))
    all_goals
      have hk := below_step ((Below.refl _ _).drew) hb1 (Nat.le_refl _)
      clear c0 c1 c2 c3 hs1 hs2 hm hat hq e2
      go_wp2_with fail
      refine (CL.out _ hk).mono ?_
      rintro _ w3 ⟨A4, c4, rfl, ho, hb4⟩
      have HO := hid (own_base ho hk.size)
      clear ho
      go_wp2_with fail
      go_ret2
      exact ⟨A4, c4, rfl, HO.out, hk.trans (hb4.mono hk.size)⟩
end Go.Proofs.YtjkhdfncahhnoaaGreat
/- The greatest numbers of a vector: sizes, which place is ahead, how many are, an order of all, the first ones. Plain mathematics. No program in sight. -/
namespace Go.Proofs.YtjkhdfncahhnoaaGreat
set_option maxRecDepth 100000
set_option linter.unusedVariables false
/-- A number's size. -/
def szN (n : Int) : Nat := n.natAbs
/-- Place i is ahead of place k. -/
def ahB (v : List Int) (i k : Nat) : Bool := decide (szN (v.getD k 0) < szN (v.getD i 0)) || (decide (szN (v.getD i 0) = szN (v.getD k 0)) && decide (i < k))
theorem ahB_iff {v : List Int} {i k : Nat} : ahB v i k = true ↔ szN (v.getD k 0) < szN (v.getD i 0) ∨ (szN (v.getD i 0) = szN (v.getD k 0) ∧ i < k) := by
  unfold ahB
  simp
theorem ah_irr (v : List Int) (i : Nat) : ahB v i i = false := by
  rw [Bool.eq_false_iff]
  intro h
  rcases ahB_iff.1 h with h | h <;> omega
theorem ah_trans {v : List Int} {i j k : Nat} (h1 : ahB v i j = true) (h2 : ahB v j k = true) : ahB v i k = true := by
  rcases ahB_iff.1 h1 with h1 | h1 <;> rcases ahB_iff.1 h2 with h2 | h2 <;> exact ahB_iff.2 (by omega)
theorem ah_tot {v : List Int} {i k : Nat} (h : i ≠ k) : ahB v i k = true ∨ ahB v k i = true := by
  by_cases h1 : szN (v.getD k 0) < szN (v.getD i 0)
  · exact Or.inl (ahB_iff.2 (Or.inl h1))
  · by_cases h2 : szN (v.getD i 0) < szN (v.getD k 0)
    · exact Or.inr (ahB_iff.2 (Or.inl h2))
    · by_cases h3 : i < k
      · exact Or.inl (ahB_iff.2 (Or.inr ⟨by omega, h3⟩))
      · exact Or.inr (ahB_iff.2 (Or.inr ⟨by omega, by omega⟩))
theorem ah_not {v : List Int} {i k : Nat} (h : ahB v i k = true) : ahB v k i = false := by
  rw [Bool.eq_false_iff]
  intro h2
  have := ah_trans h h2
  rw [ah_irr] at this
  cases this
/-- How many of the first m places are ahead of one. -/
def rkM (v : List Int) (i : Nat) : Nat → Nat
  | 0 => 0
  | m + 1 => rkM v i m + (if ahB v m i = true then 1 else 0)
/-- How many are ahead. -/
def rkN (v : List Int) (i : Nat) : Nat := rkM v i v.length
theorem rkM_le (v : List Int) (i : Nat) : ∀ m, rkM v i m ≤ m
  | 0 => Nat.le_refl _
  | m + 1 => by
    have := rkM_le v i m
    rw [rkM]
    split <;> omega
theorem rkM_lt (v : List Int) (i : Nat) : ∀ m, i < m → rkM v i m < m
  | 0, h => by omega
  | m + 1, h => by
    rw [rkM]
    by_cases e : i = m
    · subst e
      rw [ah_irr, if_neg (by decide)]
      have := rkM_le v i i
      omega
    · have := rkM_lt v i m (by omega)
      split <;> omega
theorem rkN_lt {v : List Int} {i : Nat} (h : i < v.length) : rkN v i < v.length := rkM_lt v i _ h
/-- Who is ahead has fewer ahead. -/
theorem rkM_mono {v : List Int} {i k : Nat} (h : ahB v i k = true) : ∀ m, rkM v i m ≤ rkM v k m
  | 0 => Nat.le_refl _
  | m + 1 => by
    have := rkM_mono h m
    rw [rkM, rkM]
    by_cases h1 : ahB v m i = true
    · rw [if_pos h1, if_pos (ah_trans h1 h)]
      omega
    · rw [if_neg h1]
      omega
theorem rkM_strict {v : List Int} {i k : Nat} (h : ahB v i k = true) : ∀ m, i < m → rkM v i m < rkM v k m
  | 0, hm => by omega
  | m + 1, hm => by
    rw [rkM, rkM]
    by_cases e : i = m
    · subst e
      have := rkM_mono h i
      rw [ah_irr, if_neg (by decide), if_pos h]
      omega
    · have := rkM_strict h m (by omega)
      by_cases h1 : ahB v m i = true
      · rw [if_pos h1, if_pos (ah_trans h1 h)]
        omega
      · rw [if_neg h1]
        omega
theorem rk_lt {v : List Int} {i k : Nat} (hi : i < v.length) (h : ahB v i k = true) : rkN v i < rkN v k := rkM_strict h _ hi
theorem rk_iff {v : List Int} {i k : Nat} (hi : i < v.length) (hk : k < v.length) : rkN v i < rkN v k ↔ ahB v i k = true := by
  refine ⟨fun h => ?_, rk_lt hi⟩
  by_cases e : i = k
  · subst e; omega
  · rcases ah_tot (v := v) e with h1 | h1
    · exact h1
    · have := rk_lt hk h1
      omega
theorem rk_inj {v : List Int} {i k : Nat} (hi : i < v.length) (hk : k < v.length) (h : rkN v i = rkN v k) : i = k := by
  by_cases e : i = k
  · exact e
  · rcases ah_tot (v := v) e with h1 | h1
    · have := rk_lt hi h1
      omega
    · have := rk_lt hk h1
      omega
/-- The first k, rising. -/
def pkF (v : List Int) (k : Nat) : List Nat := (List.range v.length).filter fun i => decide (rkN v i < k)
theorem pkF_mem {v : List Int} {k i : Nat} : i ∈ pkF v k ↔ i < v.length ∧ rkN v i < k := by
  unfold pkF
  simp
/-- A function one to one below n meets each number below n: counted. -/
theorem onto_of_inj : ∀ (n : Nat) (f : Nat → Nat), (∀ x, x < n → f x < n) → (∀ x y, x < n → y < n → f x = f y → x = y) → ∀ y, y < n → ∃ x, x < n ∧ f x = y
  | 0, _, _, _, y, hy => by omega
  | n + 1, f, h1, h2, y, hy => by
    by_cases hl : f n = y
    · exact ⟨n, by omega, hl⟩
    · -- the value at n changes places with n
      have hfn := h1 n (by omega)
      have g1 : ∀ x, x < n → (if f x = n then f n else f x) < n := fun x hx => by
        have a := h1 x (by omega)
        by_cases e : f x = n
        · rw [if_pos e]
          have : f n ≠ n := fun e2 => by
            have := h2 x n (by omega) (by omega) (by omega)
            omega
          omega
        · rw [if_neg e]
          omega
      have g2 : ∀ x z, x < n → z < n → (if f x = n then f n else f x) = (if f z = n then f n else f z) → x = z := fun x z hx hz e => by
        have a := h2 x z (by omega) (by omega)
        have b := h2 x n (by omega) (by omega)
        have c := h2 z n (by omega) (by omega)
        split at e <;> split at e <;> first | exact a (by omega) | (have := b (by omega); omega) | (have := c (by omega); omega) | (have := b e.symm; omega) | (have := c e; omega)
      by_cases hyn : y = n
      · subst hyn
        obtain ⟨x, hx, hfx⟩ := onto_of_inj y (fun x => if f x = y then f y else f x) g1 g2 (f y) (by omega)
        refine ⟨x, by omega, ?_⟩
        by_cases e : f x = y
        · exact e
        · simp only [if_neg e] at hfx
          have := h2 x y (by omega) (by omega) hfx
          omega
      · obtain ⟨x, hx, hfx⟩ := onto_of_inj n (fun x => if f x = n then f n else f x) g1 g2 y (by omega)
        refine ⟨x, by omega, ?_⟩
        by_cases e : f x = n
        · simp only [if_pos e] at hfx
          exact absurd hfx hl
        · simpa only [if_neg e] using hfx
theorem rk_onto {v : List Int} {r : Nat} (h : r < v.length) : ∃ i, i < v.length ∧ rkN v i = r :=
  onto_of_inj v.length (rkN v) (fun _ h => rkN_lt h) (fun _ _ h1 h2 h => rk_inj h1 h2 h) r h
/-- Which place comes as the r-th. -/
def atR (v : List Int) (r : Nat) : Nat := ((List.range v.length).find? fun i => decide (rkN v i = r)).getD 0
theorem atR_is {v : List Int} {r : Nat} (h : r < v.length) : atR v r < v.length ∧ rkN v (atR v r) = r := by
  obtain ⟨i, hi, hr⟩ := rk_onto h
  unfold atR
  cases hf : (List.range v.length).find? fun i => decide (rkN v i = r) with
  | none =>
    have := List.find?_eq_none.1 hf i (List.mem_range.2 hi)
    simp [hr] at this
  | some j =>
    have h1 := List.find?_some hf
    have h2 := List.mem_of_find?_eq_some hf
    simp at h1 h2
    exact ⟨h2, h1⟩
theorem atR_of {v : List Int} {i : Nat} (h : i < v.length) : atR v (rkN v i) = i := by
  obtain ⟨h1, h2⟩ := atR_is (rkN_lt h)
  exact rk_inj h1 h h2
/-- The order. -/
def ordT (v : List Int) : List Nat := (List.range v.length).map (atR v)
theorem ordT_len (v : List Int) : (ordT v).length = v.length := by unfold ordT; simp
theorem ordT_at {v : List Int} {r : Nat} (h : r < v.length) : (ordT v)[r]? = some (atR v r) := by unfold ordT; simp [h]
/-- The first k of the order are those that are picked. -/
theorem pkF_ord {v : List Int} {k i : Nat} (hk : k ≤ v.length) : i ∈ pkF v k ↔ i ∈ (ordT v).take k := by
  rw [pkF_mem]
  constructor
  · rintro ⟨h1, h2⟩
    refine List.mem_of_getElem? (i := rkN v i) ?_
    rw [List.getElem?_take_of_lt h2, ordT_at (rkN_lt h1), atR_of h1]
  · intro h
    obtain ⟨r, hr⟩ := List.mem_iff_getElem?.1 h
    have hl := (List.getElem?_eq_some_iff.1 hr).1
    rw [List.length_take, ordT_len] at hl
    rw [List.getElem?_take_of_lt (by omega), ordT_at (by omega)] at hr
    injection hr with hr
    obtain ⟨h1, h2⟩ := atR_is (v := v) (r := r) (by omega)
    rw [hr] at h1 h2
    exact ⟨h1, by omega⟩
end Go.Proofs.YtjkhdfncahhnoaaGreat
/- A heap of places with sizes: which one is behind, what one that rises or sinks leaves, who is on top. Plain mathematics. No program in sight. -/
namespace Go.Proofs.YtjkhdfncahhnoaaGreat
open Go.Sort
set_option maxRecDepth 100000
set_option linter.unusedVariables false
/-- A place with its size is behind another one. -/
def beh (x y : Nat × Nat) : Bool := decide (x.2 < y.2 ∨ (x.2 = y.2 ∧ y.1 < x.1))
theorem beh_iff {x y : Nat × Nat} : beh x y = true ↔ x.2 < y.2 ∨ (x.2 = y.2 ∧ y.1 < x.1) := by unfold beh; simp
theorem beh_not {x y : Nat × Nat} : beh x y = false ↔ ¬ (x.2 < y.2 ∨ (x.2 = y.2 ∧ y.1 < x.1)) := by rw [← beh_iff, Bool.not_eq_true]
theorem beh_irr (x : Nat × Nat) : beh x x = false := beh_not.2 (by omega)
theorem beh_nt {x y z : Nat × Nat} (h1 : beh x y = false) (h2 : beh y z = false) : beh x z = false := by
  rw [beh_not] at *; omega
theorem beh_asym {x y : Nat × Nat} (h : beh x y = true) : beh y x = false := by
  rw [beh_iff] at h; rw [beh_not]; omega
theorem beh_eq {x y : Nat × Nat} (h1 : beh x y = false) (h2 : beh y x = false) : x = y := by
  rw [beh_not] at h1 h2; exact Prod.ext (by omega) (by omega)
/-- None of the first n is behind who stands above it. -/
def HpOk (d : Array (Nat × Nat)) (n : Nat) : Prop := ∀ i, 0 < i → i < n → beh d[i]! d[(i - 1) / 2]! = false
/-- .. but for the one at j, which may rise. -/
def HpUp (d : Array (Nat × Nat)) (n j : Nat) : Prop :=
  (∀ i, 0 < i → i < n → i ≠ j → beh d[i]! d[(i - 1) / 2]! = false) ∧ (∀ i, 0 < i → i < n → (i - 1) / 2 = j → 0 < j → beh d[i]! d[(j - 1) / 2]! = false)
/-- .. but for those below j, which may sink. -/
def HpDn (d : Array (Nat × Nat)) (n j : Nat) : Prop :=
  (∀ i, 0 < i → i < n → (i - 1) / 2 ≠ j → beh d[i]! d[(i - 1) / 2]! = false) ∧ (∀ i, 0 < i → i < n → (i - 1) / 2 = j → 0 < j → beh d[i]! d[(j - 1) / 2]! = false)
theorem hp_up_stop {d : Array (Nat × Nat)} {n j : Nat} (h : HpUp d n j) (h2 : 0 < j → beh d[j]! d[(j - 1) / 2]! = false) : HpOk d n := fun i h0 hn => by
  by_cases e : i = j
  · subst e; exact h2 h0
  · exact h.1 i h0 hn e
theorem hp_up_step {d : Array (Nat × Nat)} {n j : Nat} (h : HpUp d n j) (h0 : 0 < j) (hj : j < n) (hn : n ≤ d.size) (hb : beh d[j]! d[(j - 1) / 2]! = true) : HpUp (swp d ((j - 1) / 2) j) n ((j - 1) / 2) := by
  obtain ⟨p, hp⟩ : ∃ p, (j - 1) / 2 = p := ⟨_, rfl⟩
  have hpj : p < j := by omega
  have hg := fun k => swp_get d (show p < d.size by omega) (show j < d.size by omega) k
  rw [hp] at hb ⊢
  refine ⟨fun i i0 hi e => ?_, fun i i0 hi e1 e2 => ?_⟩
  · rw [hg, hg]
    by_cases c : i = j
    · rw [if_pos c, c, hp, if_neg (by omega), if_pos rfl]
      exact beh_asym hb
    · rw [if_neg c, if_neg e]
      by_cases c2 : (i - 1) / 2 = j
      · rw [if_pos c2]
        have := h.2 i i0 hi c2 h0
        rwa [hp] at this
      · rw [if_neg c2]
        by_cases c3 : (i - 1) / 2 = p
        · rw [if_pos c3]
          have := h.1 i i0 hi c
          rw [c3] at this
          exact beh_nt this (beh_asym hb)
        · rw [if_neg c3]
          exact h.1 i i0 hi c
  · rw [hg, hg, if_neg (show ¬ (p - 1) / 2 = j by omega), if_neg (show ¬ (p - 1) / 2 = p by omega)]
    have hpp := h.1 p e2 (by omega) (by omega)
    by_cases c : i = j
    · rw [if_pos c]; exact hpp
    · rw [if_neg c, if_neg (show ¬ i = p by omega)]
      have := h.1 i i0 hi c
      rw [e1] at this
      exact beh_nt this hpp
theorem hp_dn_stop {d : Array (Nat × Nat)} {n j : Nat} (h : HpDn d n j) (h2 : ∀ c, 0 < c → c < n → (c - 1) / 2 = j → beh d[c]! d[j]! = false) : HpOk d n := fun i h0 hn => by
  by_cases e : (i - 1) / 2 = j
  · rw [e]; exact h2 i h0 hn e
  · exact h.1 i h0 hn e
theorem hp_dn_step {d : Array (Nat × Nat)} {n j c : Nat} (h : HpDn d n j) (hc : 0 < c) (hcn : c < n) (hcj : (c - 1) / 2 = j) (hn : n ≤ d.size) (hb : beh d[c]! d[j]! = true)
    (ho : ∀ k, 0 < k → k < n → (k - 1) / 2 = j → beh d[k]! d[c]! = false) : HpDn (swp d j c) n c := by
  have hjc : j < c := by omega
  have hg := fun k => swp_get d (show j < d.size by omega) (show c < d.size by omega) k
  refine ⟨fun i i0 hi e => ?_, fun i i0 hi e1 e2 => ?_⟩
  · rw [hg, hg]
    by_cases e1 : i = c
    · rw [if_pos e1, e1, hcj, if_neg (by omega), if_pos rfl]
      exact beh_asym hb
    · rw [if_neg e1, if_neg e]
      by_cases e2 : i = j
      · rw [if_pos e2]
        by_cases e3 : (i - 1) / 2 = j
        · omega
        · rw [if_neg e3, e2]
          exact h.2 c hc hcn hcj (by omega)
      · rw [if_neg e2]
        by_cases e3 : (i - 1) / 2 = j
        · rw [if_pos e3]; exact ho i i0 hi e3
        · rw [if_neg e3]; exact h.1 i i0 hi e3
  · rw [hg, hg, if_neg (show ¬ i = c by omega), if_neg (show ¬ i = j by omega), hcj, if_neg (show ¬ j = c by omega), if_pos rfl]
    have := h.1 i i0 hi (by omega)
    rwa [e1] at this
/-- Nobody is behind the one on top. -/
theorem hp_top {d : Array (Nat × Nat)} {n : Nat} (h : HpOk d n) : ∀ i, i < n → beh d[i]! d[0]! = false := fun i => by
  induction i using Nat.strongRecOn with
  | _ i ih =>
    intro hi
    by_cases h0 : i = 0
    · subst h0; exact beh_irr _
    · exact beh_nt (h i (by omega) hi) (ih ((i - 1) / 2) (by omega) (by omega))
theorem push_get {d : Array (Nat × Nat)} {x : Nat × Nat} {i : Nat} (h : i < d.size) : (d.push x)[i]! = d[i]! := by
  rw [getElem!_pos (d.push x) i (by simp; omega), getElem!_pos d i h, Array.getElem_push_lt]
theorem hp_push {d : Array (Nat × Nat)} (h : HpOk d d.size) (x : Nat × Nat) : HpUp (d.push x) (d.size + 1) d.size :=
  ⟨fun i i0 hi e => by rw [push_get (by omega), push_get (by omega)]; exact h i i0 (by omega), fun i i0 hi e1 e2 => by omega⟩
/-- The last one is put on top, and may sink. -/
theorem hp_lower {d : Array (Nat × Nat)} {n : Nat} (h : HpOk d (n + 1)) (hn : n < d.size) : HpDn (swp d 0 n) n 0 := by
  refine ⟨fun i i0 hi e => ?_, fun i i0 hi e1 e2 => by omega⟩
  rw [swp_other d 0 n i (by omega) (by omega), swp_other d 0 n _ (by omega) (by omega)]
  exact h i i0 (by omega)
theorem swp_perm {d : Array (Nat × Nat)} {i j : Nat} (hi : i < d.size) (hj : j < d.size) : (swp d i j).toList.Perm d.toList := by
  have h := (swp_permIn d 0 d.size i j (Nat.zero_le _) hi (Nat.zero_le _) hj (Nat.le_refl _)).2.2
  have e1 : (swp d i j).extract 0 d.size = swp d i j := by rw [← size_swp d i j]; simp
  rw [e1] at h
  simpa using h
end Go.Proofs.YtjkhdfncahhnoaaGreat
/- Entries held against each other; the library's Compare and Or. -/
namespace Go.Proofs.YtjkhdfncahhnoaaGreat
open Go.RowKit
set_option maxHeartbeats 400000
set_option maxRecDepth 100000
set_option linter.unusedVariables false
def cmpI (x y : Int) : Int := if x < y then -1 else if x > y then 1 else 0
def orI (a b : Int) : Int := if a ≠ 0 then a else b
/-- Below 0, if the first is ahead of the second. -/
def cfE (x y : Nat × Nat) : Int := orI (cmpI y.2 x.2) (cmpI x.1 y.1)
theorem cfE_pos {x y : Nat × Nat} : (cfE x y > 0) ↔ beh x y = true := by
  rw [beh_iff]
  unfold cfE orI cmpI
  constructor
  · intro h
    split at h <;> split at h <;> (try split at h) <;> (try split at h) <;> omega
  · intro h
    split <;> split <;> (try split) <;> (try split) <;> omega
theorem cfE_neg {x y : Nat × Nat} : (cfE x y < 0) ↔ beh y x = true := by
  rw [beh_iff]
  unfold cfE orI cmpI
  constructor
  · intro h
    split at h <;> split at h <;> (try split at h) <;> (try split at h) <;> omega
  · intro h
    split <;> split <;> (try split) <;> (try split) <;> omega
theorem hp_CmpI (x y : Int) (w : World) : Calls Tryz.prog 145 #[.int .i64 x, .int .i64 y] w fun e w' => e = .returned (.int .i64 (cmpI x y)) ∧ w = w' := by
  by_cases h1 : x < y
  · have e : cmpI x y = -1 := if_pos h1
    rw [e]
    clear e
    go_enter Tryz.func145, Tryz.ntmps145
    go_wp2
    go_ret
    exact ⟨rfl, rfl⟩
  · by_cases h2 : x > y
    · have e : cmpI x y = 1 := by unfold cmpI; rw [if_neg h1, if_pos h2]
      rw [e]
      clear e
      go_enter Tryz.func145, Tryz.ntmps145
      go_wp2
      go_ret
      exact ⟨rfl, rfl⟩
    · have e : cmpI x y = 0 := by unfold cmpI; rw [if_neg h1, if_neg h2]
      rw [e]
      clear e
      go_enter Tryz.func145, Tryz.ntmps145
      go_wp2
      go_ret
      exact ⟨rfl, rfl⟩
theorem hp_CmpU (x y : Int) (w : World) : Calls Tryz.prog 144 #[.int .u64 x, .int .u64 y] w fun e w' => e = .returned (.int .i64 (cmpI x y)) ∧ w = w' := by
  by_cases h1 : x < y
  · have e : cmpI x y = -1 := if_pos h1
    rw [e]
    clear e
    go_enter Tryz.func144, Tryz.ntmps144
    go_wp2
    go_ret
    exact ⟨rfl, rfl⟩
  · by_cases h2 : x > y
    · have e : cmpI x y = 1 := by unfold cmpI; rw [if_neg h1, if_pos h2]
      rw [e]
      clear e
      go_enter Tryz.func144, Tryz.ntmps144
      go_wp2
      go_ret
      exact ⟨rfl, rfl⟩
    · have e : cmpI x y = 0 := by unfold cmpI; rw [if_neg h1, if_neg h2]
      rw [e]
      clear e
      go_enter Tryz.func144, Tryz.ntmps144
      go_wp2
      go_ret
      exact ⟨rfl, rfl⟩
theorem hp_Or (a b : Int) (g : Nat) (c : Nat) (w : World) (h0 : w.cell? ⟨g, 0, none⟩ = some (.int .i64 a)) (h1 : w.cell? ⟨g, 1, none⟩ = some (.int .i64 b)) :
    Calls Tryz.prog 143 #[.slice (some ⟨g, 0, none⟩) 2 c] w fun e w' => e = .returned (.int .i64 (orI a b)) ∧ w = w' := by
  have HR : Hid ((a ≠ 0 → orI a b = a) ∧ (a = 0 → orI a b = b)) := hid ⟨fun h => if_pos h, fun h => if_neg (by omega)⟩
  obtain ⟨R, hR⟩ : ∃ R, orI a b = R := ⟨_, rfl⟩
  rw [hR] at HR ⊢
  clear hR
  go_enter Tryz.func143, Tryz.ntmps143
  go_wp2_with fail
  go_loop [5, 8] (fun x5 i => ∃ q : Nat, q ≤ 2 ∧ i = .int .i64 q ∧ (1 ≤ q → a = 0) ∧ (q = 2 → b = 0)) (fun _ i => 2 - (intOf i).toNat)
  case atStart => exact ⟨0, by omega, rfl, by omega, by omega⟩
  case round =>
    obtain ⟨q, hq, rfl, ha, hb⟩ := hrel
    obtain hq | hq | hq : q = 0 ∨ q = 1 ∨ q = 2 := by omega
    · subst hq
      by_cases hz : a = 0
      · have e : (a != 0) = false := by simp [hz]
        go_wp2_with fail
        go_round
        case rel => exact ⟨1, by omega, by go_num, fun _ => hz, by omega⟩
        case measure => simp [intOf]
      · have e : (a != 0) = true := by simp [hz]
        go_wp2_with fail
        go_ret
        exact ⟨by rw [HR.out.1 hz]; (first | done | rfl), rfl⟩
    · subst hq
      have ha := ha (by omega)
      by_cases hz : b = 0
      · have e : (b != 0) = false := by simp [hz]
        go_wp2_with fail
        go_round
        case rel => exact ⟨2, by omega, by go_num, fun _ => ha, fun _ => hz⟩
        case measure => simp [intOf]
      · have e : (b != 0) = true := by simp [hz]
        have HA := hid ha
        clear ha
        go_wp2_with fail
        go_ret
        exact ⟨by rw [HR.out.2 HA.out]; (first | done | rfl), rfl⟩
    · subst hq
      have HA := hid (ha (by omega))
      have HB := hid (hb (by omega))
      clear ha hb
      go_wp2_with fail
      go_ret
      exact ⟨by rw [HR.out.2 HA.out, HB.out]; (first | done | rfl), rfl⟩
theorem tc_0 {W : World} {u v : Value} {t : TypeId} {n : Nat} (h : n = W.heap.size) : (W.alloc (.cells #[u, v] t)).cell? ⟨n, 0, none⟩ = some u := by
  subst h
  simp
theorem tc_1 {W : World} {u v : Value} {t : TypeId} {n : Nat} (h : n = W.heap.size) : (W.alloc (.cells #[u, v] t)).cell? ⟨n, 1, none⟩ = some v := by
  subst h
  simp
set_option maxHeartbeats 4000000 in
theorem hp_against (x y : Nat × Nat) (w : World) : Calls Tryz.prog 142 #[.agg #[.int .i64 (x.1 : Int), .int .u64 (x.2 : Int)], .agg #[.int .i64 (y.1 : Int), .int .u64 (y.2 : Int)]] w fun e w' => e = .returned (.int .i64 (cfE x y)) ∧ ∃ q os, w' = Go.Sort.grow (w.drewN q) os := by
  have C1 := hid (fun W => (hp_CmpU (y.2 : Int) (x.2 : Int) W).mono fun _ _ h => And.intro h.1 h.2.symm)
  have C2 := hid (fun W => (hp_CmpI (x.1 : Int) (y.1 : Int) W).mono fun _ _ h => And.intro h.1 h.2.symm)
  unfold cfE
  obtain ⟨a, ha⟩ : ∃ a, cmpI (y.2 : Int) (x.2 : Int) = a := ⟨_, rfl⟩
  obtain ⟨b, hb⟩ : ∃ b, cmpI (x.1 : Int) (y.1 : Int) = b := ⟨_, rfl⟩
  rw [ha] at C1 ⊢
  rw [hb] at C2 ⊢
  clear ha hb
  have C3 := hid (fun (W : World) (t : TypeId) (n c : Nat) (h : n = W.heap.size) => hp_Or a b n c _ (tc_0 (W := W) (u := .int .i64 a) (v := .int .i64 b) (t := t) h) (tc_1 (W := W) (u := .int .i64 a) (v := .int .i64 b) (t := t) h))
  obtain ⟨r, hr⟩ : ∃ r, orI a b = r := ⟨_, rfl⟩
  rw [hr] at C3 ⊢
  clear hr
  go_enter Tryz.func142, Tryz.ntmps142
  go_wp2_with fail
  obtain ⟨w2, hw2⟩ : ∃ w2, ((w.alloc (.cells #[.int .i64 (x.1 : Int), .int .u64 (x.2 : Int)] 93)).alloc (.cells #[.int .i64 (y.1 : Int), .int .u64 (y.2 : Int)] 93)) = w2 := ⟨_, rfl⟩
  have a0 : w2.cell? ⟨w.heap.size, 0, none⟩ = some (.int .i64 (x.1 : Int)) := by rw [← hw2]; simp
  have a1 : w2.cell? ⟨w.heap.size, 1, none⟩ = some (.int .u64 (x.2 : Int)) := by rw [← hw2]; simp
  have b0 : w2.cell? ⟨w.heap.size + 1, 0, none⟩ = some (.int .i64 (y.1 : Int)) := by rw [← hw2]; simp
  have b1 : w2.cell? ⟨w.heap.size + 1, 1, none⟩ = some (.int .u64 (y.2 : Int)) := by rw [← hw2]; simp
  rw [hw2]
  have HW := hid hw2
  clear hw2
  go_still_tail 10, (by kernel_rfl)
  repeat (first | still_call (C1.out _) | still_call (C2.out _) | still_step)
  refine wpStill_nil ?_
  change wpList _ _ _ _ _ w2.drew
  generalize hw3 : w2.drew = w3
  have HW3 := hid hw3
  clear hw3
  go_wp2_with fail
  refine (C3.out _ _ _ _ rfl).mono ?_
  rintro _ _ ⟨rfl, rfl⟩
  go_wp2_with fail
  go_ret
  exact ⟨rfl, 1, _, by rw [← HW3.out, ← HW.out, Go.Sort.alloc_eq_grow w, Go.Sort.alloc_eq_grow (Go.Sort.grow w _), Go.Sort.grow_grow, Go.Sort.drew_grow, Go.Sort.alloc_eq_grow, Go.Sort.grow_grow]; rfl⟩
end Go.Proofs.YtjkhdfncahhnoaaGreat
/- Entries in a row of memory: what is loaded, exchanged. -/
namespace Go.Proofs.YtjkhdfncahhnoaaGreat
open Go.RowKit
set_option maxHeartbeats 400000
set_option maxRecDepth 100000
set_option linter.unusedVariables false
/-- Entries as the cells of a row. -/
def flE (d : Array (Nat × Nat)) : List Value := (List.range (d.size * 2)).map fun t => if t % 2 = 0 then .int .i64 ((d[t / 2]!).1 : Int) else .int .u64 ((d[t / 2]!).2 : Int)
theorem flE_len (d : Array (Nat × Nat)) : (flE d).length = d.size * 2 := by unfold flE; simp
theorem flE_at {d : Array (Nat × Nat)} {t : Nat} (h : t < d.size * 2) : (flE d)[t]? = some (if t % 2 = 0 then .int .i64 ((d[t / 2]!).1 : Int) else .int .u64 ((d[t / 2]!).2 : Int)) := by unfold flE; simp [h]
theorem flE_0 {d : Array (Nat × Nat)} {i : Nat} (h : i < d.size) : (flE d)[i * 2]? = some (.int .i64 ((d[i]!).1 : Int)) := by
  rw [flE_at (by omega), if_pos (by omega), show i * 2 / 2 = i by omega]
theorem flE_1 {d : Array (Nat × Nat)} {i : Nat} (h : i < d.size) : (flE d)[i * 2 + 1]? = some (.int .u64 ((d[i]!).2 : Int)) := by
  rw [flE_at (by omega), if_neg (by omega), show (i * 2 + 1) / 2 = i by omega]
theorem flE_push (d : Array (Nat × Nat)) (x : Nat × Nat) : flE (d.push x) = flE d ++ [.int .i64 (x.1 : Int), .int .u64 (x.2 : Int)] := by
  refine List.ext_getElem? fun t => ?_
  by_cases h : t < d.size * 2
  · rw [List.getElem?_append_left (by rw [flE_len]; exact h), flE_at (by simp; omega), flE_at h, push_get (by omega)]
  · rw [List.getElem?_append_right (by rw [flE_len]; omega), flE_len]
    have e : (d.push x)[d.size]! = x := by rw [getElem!_pos _ _ (by simp)]; simp
    by_cases h0 : t = d.size * 2
    · subst h0
      rw [flE_0 (by simp), e]
      simp
    · by_cases h1 : t = d.size * 2 + 1
      · subst h1
        rw [flE_1 (by simp), e]
        simp
      · rw [List.getElem?_eq_none (by rw [flE_len]; simp; omega), List.getElem?_eq_none (by simp; omega)]
/-- A row of entries in memory of the call's own. -/
def RwE (w : World) (B g cap : Nat) (d : Array (Nat × Nat)) : Prop := w.ownsRow B 93 2 (.slice (some ⟨g, 0, none⟩) d.size cap) d.size (flE d)
theorem RwE.parts {w : World} {B g cap : Nat} {d : Array (Nat × Nat)} (h : RwE w B g cap d) : ∃ cur, B ≤ g ∧ w.heap[g]? = some (.cells cur 93 (0, 0)) ∧ d.size ≤ cap ∧ cap ≤ maxLen ∧ cur.size = cap * 2 ∧ cur.toList.take (d.size * 2) = flE d := by
  rcases h.2 with ⟨h', _⟩ | ⟨g', cap', cur, h', h1, h2, h3, h4, h5, h6⟩
  · simp at h'
  · simp only [Value.slice.injEq, Option.some.injEq, Addr.mk.injEq, and_true, true_and] at h'
    obtain ⟨rfl, rfl⟩ := h'
    exact ⟨cur, h1, h2, h3, h4, h5, h6⟩
theorem RwE.of {w : World} {B g cap : Nat} {d : Array (Nat × Nat)} {cur : Array Value} (h1 : B ≤ g) (h2 : w.heap[g]? = some (.cells cur 93 (0, 0))) (h3 : d.size ≤ cap) (h4 : cap ≤ maxLen) (h5 : cur.size = cap * 2) (h6 : ∀ t, t < d.size * 2 → cur[t]? = (flE d)[t]?) : RwE w B g cap d := by
  refine ⟨flE_len d, .inr ⟨g, cap, cur, rfl, h1, h2, h3, h4, h5, ?_⟩⟩
  refine List.ext_getElem? fun t => ?_
  by_cases h : t < d.size * 2
  · rw [List.getElem?_take_of_lt h, Array.getElem?_toList, h6 t h]
  · rw [List.getElem?_eq_none (by simp; omega), List.getElem?_eq_none (by rw [flE_len]; omega)]
theorem RwE.c0 {w : World} {B g cap : Nat} {d : Array (Nat × Nat)} (h : RwE w B g cap d) {i : Nat} (hi : i < d.size) : w.cell? ⟨g, i * 2, none⟩ = some (.int .i64 ((d[i]!).1 : Int)) := by
  rw [h.cellAt (i * 2) (by omega), flE_0 hi]
theorem RwE.c1 {w : World} {B g cap : Nat} {d : Array (Nat × Nat)} (h : RwE w B g cap d) {i : Nat} (hi : i < d.size) : w.cell? ⟨g, i * 2 + 1, none⟩ = some (.int .u64 ((d[i]!).2 : Int)) := by
  rw [h.cellAt (i * 2 + 1) (by omega), flE_1 hi]
theorem RwE.lt {w : World} {B g cap : Nat} {d : Array (Nat × Nat)} (h : RwE w B g cap d) : g < w.heap.size := by
  obtain ⟨cur, _, h2, _⟩ := h.parts
  exact (Array.getElem?_eq_some_iff.1 h2).1
theorem RwE.keep {w w' : World} {B g cap : Nat} {d : Array (Nat × Nat)} (h : RwE w B g cap d) (hk : w'.heap[g]? = w.heap[g]?) : RwE w' B g cap d := by
  obtain ⟨cur, h1, h2, h3, h4, h5, h6⟩ := h.parts
  exact ⟨h.1, .inr ⟨g, cap, cur, rfl, h1, hk.trans h2, h3, h4, h5, h6⟩⟩
theorem RwE.on {w w' : World} {B g cap : Nat} {d : Array (Nat × Nat)} (h : RwE w B g cap d) (hb : Below w.heap.size w w') : RwE w' B g cap d := h.keep (hb.block g h.lt)
theorem heap_set {w : World} {g off : Nat} {v : Value} {cur : Array Value} {e : TypeId} {fr : Nat × Nat} (h : w.heap[g]? = some (.cells cur e fr)) : (w.setCell ⟨g, off, none⟩ v).heap[g]? = some (.cells (cur.setIfInBounds off v) e fr) := by
  rw [Go.Sort.setCell_eq]
  simp [Go.Sort.mapBlock, Array.getElem?_modify, h, Go.Sort.onCells]
/-- Two entries change places. -/
theorem RwE.swap {w : World} {B g cap : Nat} {d : Array (Nat × Nat)} (h : RwE w B g cap d) {i j : Nat} (hi : i < d.size) (hj : j < d.size) {a b a' b' : Value} (ha : a = .int .i64 ((d[j]!).1 : Int)) (hb : b = .int .u64 ((d[j]!).2 : Int)) (ha' : a' = .int .i64 ((d[i]!).1 : Int)) (hb' : b' = .int .u64 ((d[i]!).2 : Int)) :
    RwE ((((w.setCell ⟨g, i * 2, none⟩ a).setCell ⟨g, i * 2 + 1, none⟩ b).setCell ⟨g, j * 2, none⟩ a').setCell ⟨g, j * 2 + 1, none⟩ b') B g cap (Go.Sort.swp d i j) := by
  obtain ⟨cur, h1, h2, h3, h4, h5, h6⟩ := h.parts
  refine RwE.of h1 (heap_set (heap_set (heap_set (heap_set h2)))) (by rw [Go.Sort.size_swp]; exact h3) h4 (by simpa using h5) fun t ht => ?_
  rw [Go.Sort.size_swp] at ht
  rw [flE_at (by rw [Go.Sort.size_swp]; exact ht), Go.Sort.swp_get d hi hj]
  have hc : cur[t]? = some (if t % 2 = 0 then .int .i64 ((d[t / 2]!).1 : Int) else .int .u64 ((d[t / 2]!).2 : Int)) := by
    have := congrArg (fun l => l[t]?) h6
    simp only [List.getElem?_take_of_lt ht, Array.getElem?_toList, flE_at ht] at this
    exact this
  have hs : t < cur.size := (Array.getElem?_eq_some_iff.1 hc).1
  subst ha hb ha' hb'
  simp only [Array.getElem?_setIfInBounds, Array.size_setIfInBounds]
  by_cases e1 : j * 2 + 1 = t
  · rw [if_pos e1, if_pos (by omega), if_neg (by omega), if_pos (by omega)]
  · rw [if_neg e1]
    by_cases e2 : j * 2 = t
    · rw [if_pos e2, if_pos (by omega), if_pos (by omega), if_pos (by omega)]
    · rw [if_neg e2, if_neg (show ¬ t / 2 = j by omega)]
      by_cases e3 : i * 2 + 1 = t
      · rw [if_pos e3, if_pos (by omega), if_neg (by omega), if_pos (by omega)]
      · rw [if_neg e3]
        by_cases e4 : i * 2 = t
        · rw [if_pos e4, if_pos (by omega), if_pos (by omega), if_pos (by omega)]
        · rw [if_neg e4, if_neg (show ¬ t / 2 = i by omega), hc]
/-- Of the blocks that were there these two alone may have turned. -/
structure Otr (x y : Nat) (w w' : World) : Prop where
  os : w'.os = w.os
  tape : w'.tape = w.tape
  output : w'.output = w.output
  size : w.heap.size ≤ w'.heap.size
  block : ∀ k, k < w.heap.size → k ≠ x → k ≠ y → w'.heap[k]? = w.heap[k]?
theorem Otr.refl (x y : Nat) (w : World) : Otr x y w w := ⟨rfl, rfl, rfl, Nat.le_refl _, fun _ _ _ _ => rfl⟩
theorem Otr.trans {x y : Nat} {a b c : World} (h : Otr x y a b) (k : Otr x y b c) : Otr x y a c :=
  ⟨k.os.trans h.os, k.tape.trans h.tape, k.output.trans h.output, Nat.le_trans h.size k.size, fun i hi h1 h2 => (k.block i (Nat.lt_of_lt_of_le hi h.size) h1 h2).trans (h.block i hi h1 h2)⟩
theorem Otr.wide {x y x' y' : Nat} {w w' : World} (h : Otr x y w w') (hx : x = x' ∨ x = y') (hy : y = x' ∨ y = y') : Otr x' y' w w' :=
  ⟨h.os, h.tape, h.output, h.size, fun k hk h1 h2 => h.block k hk (by rcases hx with e | e <;> omega) (by rcases hy with e | e <;> omega)⟩
theorem Otr.of_below {x y : Nat} {w w' : World} (h : Below w.heap.size w w') : Otr x y w w' := ⟨h.os, h.tape, h.output, h.size, fun k hk _ _ => h.block k hk⟩
theorem Otr.below {x y B : Nat} {w w' : World} (h : Otr x y w w') (hx : B ≤ x) (hy : B ≤ y) (hB : B ≤ w.heap.size) : Below B w w' := ⟨h.os, h.tape, h.output, h.size, fun k hk => h.block k (by omega) (by omega) (by omega)⟩
theorem Otr.drew {x y : Nat} {a w : World} (h : Otr x y a w) : Otr x y a w.drew := ⟨h.os, h.tape, h.output, h.size, h.block⟩
theorem Otr.set {x y : Nat} {a w : World} (h : Otr x y a w) {p : Addr} (hp : p.block = x ∨ p.block = y) (u : Value) : Otr x y a (w.setCell p u) :=
  ⟨h.os, h.tape, h.output, by simpa [World.setCell] using h.size, fun k hk h1 h2 => by rw [Below.heap_setCell _ _ _ _ (by rcases hp with e | e <;> omega)]; exact h.block k hk h1 h2⟩
theorem grow_below (w : World) (q : Nat) (os : Array Obj) : Below w.heap.size w (Go.Sort.grow (w.drewN q) os) := by
  refine ⟨rfl, rfl, rfl, ?_, fun k hk => ?_⟩
  · show w.heap.size ≤ (w.heap ++ os).size
    simp
  · show (w.heap ++ os)[k]? = _
    rw [Array.getElem?_append_left hk]
theorem hp_Len {A : Option Addr} {n c : Nat} (w : World) : Calls Tryz.prog 54 #[.slice A n c] w fun e w' => e = .returned (.int .i64 n) ∧ w = w' := by
  go_enter Tryz.func54, Tryz.ntmps54
  go_wp2
  go_ret
  exact ⟨rfl, rfl⟩
theorem cell_set {w : World} {p q : Addr} {x v : Value} (h : w.cell? q = some v) : ∃ v', (w.setCell p x).cell? q = some v' := by
  by_cases e : p = q
  · subst e; exact ⟨x, World.cell?_setCell_same w p x h⟩
  · exact ⟨v, (World.cell?_setCell_other w p q x e).trans h⟩
theorem hp_Swap {B g cap : Nat} (d : Array (Nat × Nat)) (i j : Nat) (hi : i < d.size) (hj : j < d.size) (w : World) (h : RwE w B g cap d) :
    Calls Tryz.prog 141 #[.slice (some ⟨g, 0, none⟩) d.size cap, .int .i64 i, .int .i64 j] w fun e w' => e = .returned (.tuple #[]) ∧ RwE w' B g cap (Go.Sort.swp d i j) ∧ Otr g g w w' := by
  have f := fun k => World.ownsRow.frozenAt h k
  have c0 := h.c0 hi
  have c1 := h.c1 hi
  have d0 := h.c0 hj
  have d1 := h.c1 hj
  have hl : i < d.size := hi
  have HX := hid (d0)
  have HY := hid (d1)
  obtain ⟨a, ha⟩ : ∃ a : Int, ((d[i]!).1 : Int) = a := ⟨_, rfl⟩
  obtain ⟨b, hb⟩ : ∃ b : Int, ((d[i]!).2 : Int) = b := ⟨_, rfl⟩
  obtain ⟨c, hc⟩ : ∃ c : Int, ((d[j]!).1 : Int) = c := ⟨_, rfl⟩
  obtain ⟨e, he⟩ : ∃ e : Int, ((d[j]!).2 : Int) = e := ⟨_, rfl⟩
  have HSW := hid (fun W (h : RwE W B g cap d) => h.swap (a := .int .i64 c) (b := .int .u64 e) (a' := .int .i64 a) (b' := .int .u64 b) hi hj (by rw [hc]) (by rw [he]) (by rw [ha]) (by rw [hb]))
  rw [ha] at c0
  rw [hb] at c1
  rw [hc] at d0
  rw [he] at d1
  clear ha hb hc he
  obtain ⟨v1, hv1⟩ := cell_set (p := ⟨g, i * 2, none⟩) (x := .int .i64 c) d0
  obtain ⟨v2, hv2⟩ := cell_set (p := ⟨g, i * 2 + 1, none⟩) (x := .int .u64 e) d1
  obtain ⟨v0, hv0⟩ := cell_set (p := ⟨g, i * 2, none⟩) (x := .int .i64 c) d1
  obtain ⟨v3, hv3⟩ := cell_set (p := ⟨g, i * 2 + 1, none⟩) (x := .int .u64 e) hv0
  have H := hid h
  clear h
  go_enter Tryz.func141, Tryz.ntmps141
  go_wp2_with fail
  go_region
  go_wp2_with fail
  go_end0
  refine ⟨rfl, HSW.out w H.out, ?_⟩
  exact ((((Otr.refl g g w).set (.inl rfl) _).set (.inl rfl) _).set (.inl rfl) _).set (.inl rfl) _ |>.drew
theorem hp_Less {B g cap : Nat} (d : Array (Nat × Nat)) (i j : Nat) (hi : i < d.size) (hj : j < d.size) (w : World) (h : RwE w B g cap d) :
    Calls Tryz.prog 140 #[.slice (some ⟨g, 0, none⟩) d.size cap, .int .i64 i, .int .i64 j] w fun e w' => e = .returned (.bool (beh d[i]! d[j]!)) ∧ Below w.heap.size w w' := by
  have c0 := fun n os => Go.cell_grown (a := ⟨g, i * 2, none⟩) h.lt (h.c0 hi) n os
  have c1 := fun n os => Go.cell_grown (a := ⟨g, i * 2 + 1, none⟩) h.lt (h.c1 hi) n os
  have d0 := fun n os => Go.cell_grown (a := ⟨g, j * 2, none⟩) h.lt (h.c0 hj) n os
  have d1 := fun n os => Go.cell_grown (a := ⟨g, j * 2 + 1, none⟩) h.lt (h.c1 hj) n os
  clear h
  obtain ⟨N, hN⟩ : ∃ N, d.size = N := ⟨_, rfl⟩
  rw [hN] at hi hj ⊢
  obtain ⟨⟨x1, x2⟩, hx⟩ : ∃ x, d[i]! = x := ⟨_, rfl⟩
  obtain ⟨⟨y1, y2⟩, hy⟩ : ∃ y, d[j]! = y := ⟨_, rfl⟩
  rw [hx] at c0 c1 ⊢
  rw [hy] at d0 d1 ⊢
  clear hx hy hN d
  have C := hid (fun W => hp_against (x1, x2) (y1, y2) W)
  have HR : Hid (beh (x1, x2) (y1, y2) = decide (cfE (x1, x2) (y1, y2) > 0)) := hid (by
    by_cases hb : beh (x1, x2) (y1, y2) = true
    · rw [hb, decide_eq_true (cfE_pos.2 hb)]
    · rw [Bool.eq_false_iff.2 hb, decide_eq_false (fun hc => hb (cfE_pos.1 hc))])
  obtain ⟨R, hR⟩ : ∃ R, beh (x1, x2) (y1, y2) = R := ⟨_, rfl⟩
  obtain ⟨r, hr⟩ : ∃ r, cfE (x1, x2) (y1, y2) = r := ⟨_, rfl⟩
  rw [hR, hr] at HR
  rw [hr] at C
  rw [hR]
  clear hR hr
  have mx : Tryz.prog.follows .mixedOrders = true := by kernel_rfl
  go_enter Tryz.func140, Tryz.ntmps140
  go_wp2_with fail
  go_quiet_grown (first | (go_at_call 142; (with_reducible refine Calls.grown_of (C.out _))))
  go_wp2_with fail
  go_ret
  refine ⟨by rw [HR.out]; rfl, grow_below _ _ _⟩
end Go.Proofs.YtjkhdfncahhnoaaGreat
/- One more entry is laid behind the others, the last one is taken off: the pile's own methods. -/
namespace Go.Proofs.YtjkhdfncahhnoaaGreat
open Go.RowKit
set_option maxHeartbeats 400000
set_option maxRecDepth 100000
set_option linter.unusedVariables false
theorem info_ent : (Tryz.prog.info? 93).map (fun i => (i.zero, i.size, i.bytes)) = some (some (.agg #[.int .i64 0, .int .u64 0]), 2, 16) := by kernel_rfl
theorem run_appE (w : World) (ty : TypeId) {B g cap : Nat} {d : Array (Nat × Nat)} (hr : RwE w B g cap d) (m c : Nat) (x : Nat × Nat) (h0 : w.cell? ⟨m, 0, none⟩ = some (.int .i64 (x.1 : Int))) (h1 : w.cell? ⟨m, 1, none⟩ = some (.int .u64 (x.2 : Int)))
    (hl : d.size < 100000) (hB : B ≤ w.heap.size) :
    ∃ g' cap' w', (Builtin.append_ #[70, 70] ty #[.slice (some ⟨g, 0, none⟩) d.size cap, .slice (some ⟨m, 0, none⟩) 1 c]).run Tryz.prog w = .ok (.slice (some ⟨g', 0, none⟩) (d.push x).size cap') w' ∧ RwE w' B g' cap' (d.push x) ∧ Otr g g w w' ∧ (g' = g ∨ g' = w.heap.size) := by
  obtain ⟨i, hi, hzz⟩ := Option.map_eq_some_iff.1 info_ent
  simp only [Prod.mk.injEq] at hzz
  obtain ⟨hz, hs, hb⟩ := hzz
  obtain ⟨v', w', hrun, h2, h3, _, h5⟩ := run_append_own_at (P := Tryz.prog) w B 70 ty 93 i _ 2 16 rfl hi hz hs hb rfl (by decide) _ d.size (flE d) hr ⟨m, 0, none⟩ 1 c [.int .i64 (x.1 : Int), .int .u64 (x.2 : Int)] rfl (by
    intro j u hu
    match j, hu with
    | 0, hu => simp only [List.getElem?_cons_zero, Option.some.injEq] at hu; subst hu; simpa [Addr.add] using h0
    | 1, hu => simp at hu; subst hu; simpa [Addr.add] using h1
    | j + 2, hu => simp at hu) (by
    intro u hu
    simp at hu
    rcases hu with rfl | rfl <;> rfl) (by simp [maxLen]; omega) (by omega) hB
  have hsz : (d.push x).size = d.size + 1 := by simp
  rw [← flE_push] at h2
  rcases h2.2 with ⟨_, h0⟩ | ⟨g', cap', cur, rfl, _⟩
  · omega
  · refine ⟨g', cap', w', by rw [hsz]; exact hrun, by unfold RwE; rw [hsz]; exact h2, ⟨h3.os, h3.tape, h3.output, h3.size, fun k hk h1 _ => h3.block k hk (by simp [Value.ownBlock]; exact h1)⟩, ?_⟩
    simpa [Value.ownBlock] using h5
theorem wpList_appE (w : World) {ops : Array Oper} {rest : List Oper} {o : Oper} {a : Act} {Q : Exit → Act → World → Prop} (hgd : o.guard = none) (s x : Operand)
    (ho : o.op = .call { callee := .builtin .append, args := #[s, x], argTypes := #[70, 70] })
    {B g cap : Nat} {d : Array (Nat × Nat)} (hs : a.eval s = .slice (some ⟨g, 0, none⟩) d.size cap) (hr : RwE w B g cap d) (m c : Nat) (hx : a.eval x = .slice (some ⟨m, 0, none⟩) 1 c) (y : Nat × Nat) (h0 : w.cell? ⟨m, 0, none⟩ = some (.int .i64 (y.1 : Int))) (h1 : w.cell? ⟨m, 1, none⟩ = some (.int .u64 (y.2 : Int)))
    (hl : d.size < 100000) (hB : B ≤ w.heap.size)
    (h : ∀ g' cap' w', RwE w' B g' cap' (d.push y) → Otr g g w w' → (g' = g ∨ g' = w.heap.size) → wpList Tryz.prog ops Q rest (a.put o.dst (.slice (some ⟨g', 0, none⟩) (d.push y).size cap')) w') : wpList Tryz.prog ops Q (o :: rest) a w := by
  refine wpList_plain hgd fun _ hK => ?_
  obtain ⟨g', cap', w', hrun, h2, h3, h4⟩ := run_appE w o.type hr m c y h0 h1 hl hB
  unfold Oper.wp execOp
  simp only [ho, resolve, invoke, builtin, Sem.run_bind, Sem.run_pure, Result.andThen_ok, List.map_toArray, List.map_cons, List.map_nil, hs, hx, hrun]
  exact hK _ _ (h g' cap' w' h2 h3 h4)
theorem step_appE {w : World} {ops : Array Oper} {o : Oper} {a : Act} {K : Act → World → Prop} {Q : Exit → Act → World → Prop} {E : Prop} (hgd : o.guard = none) (s x : Operand)
    (ho : o.op = .call { callee := .builtin .append, args := #[s, x], argTypes := #[70, 70] })
    {B g cap : Nat} {d : Array (Nat × Nat)} (hs : a.eval s = .slice (some ⟨g, 0, none⟩) d.size cap) (hr : RwE w B g cap d) (m c : Nat) (hx : a.eval x = .slice (some ⟨m, 0, none⟩) 1 c) (y : Nat × Nat) (h0 : w.cell? ⟨m, 0, none⟩ = some (.int .i64 (y.1 : Int))) (h1 : w.cell? ⟨m, 1, none⟩ = some (.int .u64 (y.2 : Int)))
    (hl : d.size < 100000) (hB : B ≤ w.heap.size)
    (h : ∀ g' cap' w', RwE w' B g' cap' (d.push y) → Otr g g w w' → (g' = g ∨ g' = w.heap.size) → K (a.put o.dst (.slice (some ⟨g', 0, none⟩) (d.push y).size cap')) w') :
    if Region.wanted o (yielded ops a.tmps) = true then Oper.wp Tryz.prog o a w K Q else E := by
  have hw : Region.wanted o (yielded ops a.tmps) = true := by simp [Region.wanted, hgd]
  rw [if_pos hw]
  obtain ⟨g', cap', w', hrun, h2, h3, h4⟩ := run_appE w o.type hr m c y h0 h1 hl hB
  unfold Oper.wp execOp
  simp only [ho, resolve, invoke, builtin, Sem.run_bind, Sem.run_pure, Result.andThen_ok, List.map_toArray, List.map_cons, List.map_nil, hs, hx, hrun]
  exact h g' cap' w' h2 h3 h4
/-- A box that holds a row of entries. -/
def PileAt (w : World) (B bp g cap : Nat) (d : Array (Nat × Nat)) : Prop :=
  w.cell? ⟨bp, 0, none⟩ = some (.slice (some ⟨g, 0, none⟩) d.size cap) ∧ w.frozen? ⟨bp, 0, none⟩ = false ∧ RwE w B g cap d ∧ bp ≠ g
theorem PileAt.lt {w : World} {B bp g cap : Nat} {d : Array (Nat × Nat)} (h : PileAt w B bp g cap d) : bp < w.heap.size := lt_of_cell h.1
theorem cell_blk {w w' : World} {b o : Nat} (h : w'.heap[b]? = w.heap[b]?) : w'.cell? ⟨b, o, none⟩ = w.cell? ⟨b, o, none⟩ := World.cell?_of_block (a := ⟨b, o, none⟩) h
theorem froz_blk {w w' : World} {b o : Nat} (h : w'.heap[b]? = w.heap[b]?) : w'.frozen? ⟨b, o, none⟩ = w.frozen? ⟨b, o, none⟩ := World.frozen?_of_block (a := ⟨b, o, none⟩) h
theorem PileAt.keep {w w' : World} {B bp g cap : Nat} {d : Array (Nat × Nat)} (h : PileAt w B bp g cap d) (h1 : w'.heap[bp]? = w.heap[bp]?) (h2 : w'.heap[g]? = w.heap[g]?) : PileAt w' B bp g cap d :=
  ⟨(cell_blk h1).trans h.1, (froz_blk h1).trans h.2.1, h.2.2.1.keep h2, h.2.2.2⟩
theorem PileAt.on {w w' : World} {B bp g cap : Nat} {d : Array (Nat × Nat)} (h : PileAt w B bp g cap d) (hb : Below w.heap.size w w') : PileAt w' B bp g cap d := h.keep (hb.block bp h.lt) (hb.block g h.2.2.1.lt)
set_option maxHeartbeats 1000000 in
theorem hp_PushM {B bp g cap : Nat} (d : Array (Nat × Nat)) (x1 x2 : Nat) (hl : d.size < 100000) (w : World) (h : PileAt w B bp g cap d) (hB : B ≤ w.heap.size) :
    Calls Tryz.prog 148 #[.pointer (some ⟨bp, 0, none⟩), .iface 93 (.agg #[.int .i64 (x1 : Int), .int .u64 (x2 : Int)])] w fun e w' => e = .returned (.tuple #[]) ∧ ∃ g' cap', PileAt w' B bp g' cap' (d.push (x1, x2)) ∧ Otr bp g w w' ∧ (g' = g ∨ w.heap.size ≤ g') := by
  have hta : ∀ w : World, (Instr.typeAssert (.iface 93 (.agg #[.int .i64 (x1 : Int), .int .u64 (x2 : Int)])) 20 93 false).run Tryz.prog w = .ok (.agg #[.int .i64 (x1 : Int), .int .u64 (x2 : Int)]) w := fun _ => by kernel_rfl
  obtain ⟨b0, f0, hr, hne⟩ := h
  have HR := hid hr
  have hlt := lt_of_cell b0
  have hgt := hr.lt
  clear hr
  have ba : (w.alloc (.cells #[.int .i64 (x1 : Int), .int .u64 (x2 : Int)] 93)).cell? ⟨bp, 0, none⟩ = some (.slice (some ⟨g, 0, none⟩) d.size cap) := (((Below.refl _ w).alloc (Nat.le_refl _) _).cell (p := ⟨bp, 0, none⟩) hlt).trans b0
  have HB0 := hid b0
  have HF0 := hid f0
  go_enter Tryz.func148, Tryz.ntmps148
  go_wp2_with fail
  go_region_law (first | (refine step_appE rfl _ _ rfl rfl (HR.out.on (by first | exact ((Below.refl _ w).drew).alloc (Nat.le_refl _) _ | exact ((Below.refl _ w).alloc (Nat.le_refl _) _).drew | fail)) w.heap.size _ rfl (x1, x2) (by first | (simp; done) | (show (w.alloc _).cell? _ = _; simp; done) | fail) (by first | (simp; done) | (show (w.alloc _).cell? _ = _; simp; done) | fail) hl (by simp; omega) ?_; rintro g' cap' w4 hr4 ho4 hg4; have HR4 := hid hr4; have HO4 : Hid (Otr bp g w w4) := hid (by first | exact ((Otr.of_below ((((Below.refl _ w).drew).alloc (Nat.le_refl _) _))).trans (ho4.wide (.inr rfl) (.inr rfl))) | exact ((Otr.of_below ((((Below.refl _ w).alloc (Nat.le_refl _) _).drew))).trans (ho4.wide (.inr rfl) (.inr rfl))) | fail); have HG4 : Hid (g' = g ∨ w.heap.size ≤ g') := hid (by simp at hg4; omega); have HK : Hid (w4.heap[bp]? = w.heap[bp]?) := hid (by first | exact (ho4.block bp (by simp; omega) hne hne).trans (((Below.refl w.heap.size w).alloc (Nat.le_refl _) _).block bp hlt) | fail); have b4 := (cell_blk (o := 0) HK.out).trans HB0.out; have f4 := (froz_blk (o := 0) HK.out).trans HF0.out; clear hr4 ho4 hg4) | fail)
  all_goals (
    go_wp2_with fail
    go_end0
    have hne' : g' ≠ bp := by have := HG4.out; omega
    refine ⟨rfl, g', cap', ⟨?_, ?_, ?_, hne'.symm⟩, ?_, HG4.out⟩
    · rw [Array.size_push]; exact World.cell?_setCell_same' _ _ _ (by rw [b4]; rfl)
    · rw [World.frozen?_setCell]; exact f4
    · exact HR4.out.keep (Below.heap_setCell _ _ _ _ hne')
    · exact HO4.out.set (.inl rfl) _)
end Go.Proofs.YtjkhdfncahhnoaaGreat
/- The last entry is taken off; the methods behind an interface. -/
namespace Go.Proofs.YtjkhdfncahhnoaaGreat
open Go.RowKit
set_option maxHeartbeats 400000
set_option maxRecDepth 100000
set_option linter.unusedVariables false
theorem run_cutE {g n cap k : Nat} (hk : k ≤ cap) (h0 : 0 < cap) (w : World) : (Instr.slice 70 (.slice (some ⟨g, 0, none⟩) n cap) none (some (.int .i64 (k : Int))) none).run Tryz.prog w = .ok (.slice (some ⟨g, 0, none⟩) k cap) w := by
  have hs : ∀ w, (sizeOf (Tryz.prog.elem 70)).run Tryz.prog w = .ok 2 w := fun _ => by kernel_rfl
  rw [run_slice_h w 70 _ n cap (by kernel_rfl) .i64 (k : Int) (by omega) (by omega)]
  have : ¬ cap = 0 := by omega
  simp [hs, sliced, Result.andThen, this, Addr.add]
theorem pop_get {d : Array (Nat × Nat)} {i : Nat} (h : i < d.size - 1) : d.pop[i]! = d[i]! := by
  rw [getElem!_pos d.pop i (by simp; omega), getElem!_pos d i (by omega), Array.getElem_pop]
theorem RwE.pop {w : World} {B g cap : Nat} {d : Array (Nat × Nat)} (h : RwE w B g cap d) : RwE w B g cap d.pop := by
  obtain ⟨cur, h1, h2, h3, h4, h5, h6⟩ := h.parts
  refine RwE.of h1 h2 (by simp; omega) h4 h5 fun t ht => ?_
  have ht2 : t < d.size * 2 := by simp at ht; omega
  have hc := congrArg (fun l => l[t]?) h6
  simp only [List.getElem?_take_of_lt ht2, Array.getElem?_toList, flE_at ht2] at hc
  rw [hc, flE_at ht, pop_get (by simp at ht; omega)]
theorem RwE.cap {w : World} {B g cap : Nat} {d : Array (Nat × Nat)} (h : RwE w B g cap d) : d.size ≤ cap ∧ cap ≤ maxLen := by
  obtain ⟨cur, h1, h2, h3, h4, h5, h6⟩ := h.parts
  exact ⟨h3, h4⟩
set_option maxHeartbeats 1000000 in
theorem hp_PopM {B bp g cap n : Nat} (d : Array (Nat × Nat)) (hn : d.size = n + 1) (w : World) (h : PileAt w B bp g cap d) :
    Calls Tryz.prog 147 #[.pointer (some ⟨bp, 0, none⟩)] w fun e w' => e = .returned (.iface 93 (.agg #[.int .i64 ((d[n]!).1 : Int), .int .u64 ((d[n]!).2 : Int)])) ∧ PileAt w' B bp g cap d.pop ∧ Otr bp g w w' := by
  have hlt := h.lt
  obtain ⟨b0, f0, hr, hne⟩ := h
  have HR := hid hr
  have hgt := hr.lt
  have hcap := hr.cap.1
  have hcm := hr.cap.2
  have c0 := hr.c0 (i := n) (by omega)
  have c1 := hr.c1 (i := n) (by omega)
  have hpop : d.pop.size = n := by simp; omega
  obtain ⟨x1, hx1⟩ : ∃ x : Int, ((d[n]!).1 : Int) = x := ⟨_, rfl⟩
  obtain ⟨x2, hx2⟩ : ∃ x : Int, ((d[n]!).2 : Int) = x := ⟨_, rfl⟩
  rw [hx1] at c0 ⊢
  rw [hx2] at c1 ⊢
  rw [hn] at b0 hcap
  have hsl := fun W => run_cutE (g := g) (n := n + 1) (cap := cap) (k := n) (by omega) (by omega) W
  have hn5 : n + 1 ≤ 9223372036854775807 := by unfold maxLen at hcm; omega
  have HPOP := hid hpop
  clear hr hx1 hx2 hn hpop hcm
  have e1 : IntKind.i64.wrap (((n + 1 : Nat) : Int) - 1) = (n : Int) := by rw [IntKind.wrap_i64]; omega
  go_enter Tryz.func147, Tryz.ntmps147
  go_wp2_with fail
  go_ret
  have hs : (w.setCell ⟨bp, 0, none⟩ (.slice (some ⟨g, 0, none⟩) n cap)).heap.size = w.heap.size := by simp [World.setCell]
  have k1 : Below w.heap.size (w.setCell ⟨bp, 0, none⟩ (.slice (some ⟨g, 0, none⟩) n cap)) ((w.setCell ⟨bp, 0, none⟩ (.slice (some ⟨g, 0, none⟩) n cap)).alloc (.cells #[.int .i64 x1, .int .u64 x2] 93)) := (Below.refl _ _).alloc (by omega) _
  refine ⟨rfl, PileAt.keep ⟨?_, ?_, ?_, hne⟩ (k1.block bp hlt) (k1.block g hgt), ((Otr.refl bp g w).set (.inl rfl) _).trans (Otr.of_below (by rw [hs]; exact k1))⟩
  · rw [HPOP.out]; exact World.cell?_setCell_same' _ _ _ (by rw [b0]; rfl)
  · rw [World.frozen?_setCell]; exact f0
  · exact (HR.out.keep (Below.heap_setCell _ _ _ _ hne.symm)).pop
theorem run_loadP (w : World) {b : Nat} {A : Option Addr} {n c : Nat} (h : w.cell? ⟨b, 0, none⟩ = some (.slice A n c)) : (loadVar 70 ⟨b, 0, none⟩).run Tryz.prog w = .ok (.slice A n c) w := by
  simp [loadVar, h, go_sem]
theorem hp_meth {nm : String} {f : FuncId} (hf : ((Tryz.prog.info? 91).bind fun i => (i.methods.find? (·.name == nm)).map fun m => (m.path.toList, m.func)) = some ([], some (f, false))) (k : Nat) (w : World) {b : Nat} {A : Option Addr} {n c : Nat} (h : w.cell? ⟨b, 0, none⟩ = some (.slice A n c)) :
    (method (k + 1) 91 (.pointer (some ⟨b, 0, none⟩)) nm).run Tryz.prog w = .ok (f, .slice A n c) w := by
  obtain ⟨i, hi, hf⟩ := Option.bind_eq_some_iff.1 hf
  obtain ⟨m, hm, he⟩ := Option.map_eq_some_iff.1 hf
  simp only [Prod.mk.injEq] at he
  obtain ⟨hp, hfn⟩ := he
  have hL := run_loadP w h
  have hpe : m.path = #[] := by
    apply Array.ext'
    exact hp
  have hW : ∀ (t : Array TypeId) (u : TypeId) (s1 s2 : ByteArray), (Builtin.ssaWrapNilChk_ t u #[.pointer (some ⟨b, 0, none⟩), .string s1, .string s2]).run Tryz.prog w = .ok (.pointer (some ⟨b, 0, none⟩)) w := fun _ _ _ _ => rfl
  have hT : (typeInfo 91).run Tryz.prog w = .ok i w := by simp [typeInfo, hi]
  have hU : (underlying 91).run Tryz.prog w = .ok (.pointer 70) w := run_underlying Tryz.underlying91 w
  unfold method
  rw [Sem.run_bind, hT, Result.andThen_ok]
  simp only [hm, hfn]
  rw [hpe]
  simp only [follow, Sem.run_bind, Sem.run_pure, Result.andThen_ok, receiverAt, Place.get, hU, strVal, asAddr]
  simp only [show (#[] : Array FieldStep).isEmpty = true from rfl, if_true, Sem.run_bind, hW, Result.andThen_ok, Sem.run_pure, hL]
theorem hp_meth0 {nm : String} {f : FuncId} (hf : ((Tryz.prog.info? 91).bind fun i => (i.methods.find? (·.name == nm)).map fun m => (m.path.toList, m.func)) = some ([], some (f, false))) (w : World) {b : Nat} {A : Option Addr} {n c : Nat} (h : w.cell? ⟨b, 0, none⟩ = some (.slice A n c)) :
    (method 287 91 (.pointer (some ⟨b, 0, none⟩)) nm).run Tryz.prog w = .ok (f, .slice A n c) w := hp_meth hf _ w h
end Go.Proofs.YtjkhdfncahhnoaaGreat
/- The greatest numbers of a vector: how many are picked, that they rise, who is left out, scaled and turned vectors. Plain mathematics. No program in sight. -/
namespace Go.Proofs.YtjkhdfncahhnoaaGreat
set_option maxRecDepth 100000
set_option linter.unusedVariables false
theorem pkF_up (v : List Int) (k : Nat) : (pkF v k).Pairwise (· < ·) := List.Pairwise.filter _ List.pairwise_lt_range
theorem pkF_nodup (v : List Int) (k : Nat) : (pkF v k).Nodup := (pkF_up v k).imp fun h => Nat.ne_of_lt h
theorem ordT_nodup (v : List Int) : (ordT v).Nodup := by
  unfold List.Nodup
  rw [List.pairwise_iff_getElem]
  intro i j hi hj hij e
  rw [ordT_len] at hi hj
  have h1 := ordT_at hi
  have h2 := ordT_at hj
  rw [List.getElem?_eq_getElem (by rw [ordT_len]; exact hi)] at h1
  rw [List.getElem?_eq_getElem (by rw [ordT_len]; exact hj)] at h2
  injection h1 with h1
  injection h2 with h2
  have e3 : atR v i = atR v j := by rw [← h1, ← h2, e]
  have h3 := (atR_is hi).2
  have h4 := (atR_is hj).2
  rw [e3] at h3
  omega
theorem pkF_perm {v : List Int} {k : Nat} (hk : k ≤ v.length) : (pkF v k).Perm ((ordT v).take k) :=
  (List.perm_ext_iff_of_nodup (pkF_nodup v k) (List.Pairwise.sublist (List.take_sublist _ _) (ordT_nodup v))).2 fun i => pkF_ord hk
theorem pkF_len {v : List Int} {k : Nat} (hk : k ≤ v.length) : (pkF v k).length = k := by
  rw [(pkF_perm hk).length_eq, List.length_take, ordT_len]
  omega
/-- As whole numbers. -/
def pkI (v : List Int) (k : Nat) : List Int := (pkF v k).map fun (i : Nat) => (i : Int)
theorem pkI_ris (v : List Int) (k : Nat) : risP (pkI v k) := by
  unfold pkI risP
  rw [List.pairwise_map]
  exact (pkF_up v k).imp fun h => by omega
theorem pkI_len {v : List Int} {k : Nat} (hk : k ≤ v.length) : (pkI v k).length = k := by unfold pkI; rw [List.length_map, pkF_len hk]
theorem pkI_mem {v : List Int} {k : Nat} {x : Int} : x ∈ pkI v k ↔ ∃ i : Nat, x = i ∧ i < v.length ∧ rkN v i < k := by
  unfold pkI
  rw [List.mem_map]
  constructor
  · rintro ⟨i, hi, rfl⟩
    exact ⟨i, rfl, pkF_mem.1 hi⟩
  · rintro ⟨i, rfl, h⟩
    exact ⟨i, pkF_mem.2 h, rfl⟩
theorem pk_more {v : List Int} {k m i : Nat} (h : k ≤ m) (hi : i ∈ pkF v k) : i ∈ pkF v m := by
  have := pkF_mem.1 hi
  exact pkF_mem.2 ⟨this.1, by omega⟩
theorem pk_all (v : List Int) : pkF v v.length = List.range v.length := by
  unfold pkF
  rw [List.filter_eq_self]
  intro i hi
  exact decide_eq_true (rkN_lt (List.mem_range.1 hi))
theorem pk_none (v : List Int) : pkF v 0 = [] := by
  unfold pkF
  rw [List.filter_eq_nil_iff]
  intro i hi
  simp
/-- Who is picked is ahead of who is left out. -/
theorem pk_ahead {v : List Int} {k i n : Nat} (hi : i ∈ pkF v k) (hn : n < v.length) (ho : n ∉ pkF v k) : ahB v i n = true := by
  have h1 := pkF_mem.1 hi
  have h2 : ¬ rkN v n < k := fun h => ho (pkF_mem.2 ⟨hn, h⟩)
  exact (rk_iff h1.1 hn).1 (by omega)
/-- Vectors whose sizes stand to one another alike are picked alike. -/
theorem rk_alike {v u : List Int} (hl : u.length = v.length) (h : ∀ i k, ahB u i k = ahB v i k) (i : Nat) : rkN u i = rkN v i := by
  have : ∀ m, rkM u i m = rkM v i m := by
    intro m
    induction m with
    | zero => rfl
    | succ m ih => rw [rkM, rkM, ih, h]
  unfold rkN
  rw [hl, this]
theorem pk_alike {v u : List Int} (hl : u.length = v.length) (h : ∀ i k, ahB u i k = ahB v i k) (k : Nat) : pkF u k = pkF v k := by
  unfold pkF
  rw [hl]
  congr 1
  funext i
  rw [rk_alike hl h]
theorem getD_map {f : Int → Int} (h0 : f 0 = 0) (v : List Int) (i : Nat) : (v.map f).getD i 0 = f (v.getD i 0) := by
  unfold List.getD
  rw [List.getElem?_map]
  cases v[i]? with
  | none => simp [h0]
  | some x => rfl
theorem ah_neg (v : List Int) (i k : Nat) : ahB (v.map fun n => -n) i k = ahB v i k := by
  unfold ahB szN
  rw [getD_map (by decide), getD_map (by decide), Int.natAbs_neg, Int.natAbs_neg]
theorem ah_scale {c : Int} (hc : 0 < c) (v : List Int) (i k : Nat) : ahB (v.map fun n => c * n) i k = ahB v i k := by
  unfold ahB szN
  rw [getD_map (by simp), getD_map (by simp), Int.natAbs_mul, Int.natAbs_mul]
  have hp : 0 < c.natAbs := by omega
  have e1 : ∀ a b : Nat, (c.natAbs * a < c.natAbs * b) ↔ a < b := fun a b => Nat.mul_lt_mul_left hp
  have e2 : ∀ a b : Nat, (c.natAbs * a = c.natAbs * b) ↔ a = b := fun a b => ⟨fun h => Nat.eq_of_mul_eq_mul_left hp h, fun h => by rw [h]⟩
  simp only [e1, e2]
end Go.Proofs.YtjkhdfncahhnoaaGreat
/- A heap of the greatest numbers met so far: what it holds, one by one. Plain mathematics. No program in sight. -/
namespace Go.Proofs.YtjkhdfncahhnoaaGreat
open Go.Sort
set_option maxRecDepth 100000
set_option linter.unusedVariables false
/-- A place with its number's size. -/
def ent (v : List Int) (i : Nat) : Nat × Nat := (i, szN (v.getD i 0))
theorem beh_ent {v : List Int} {i k : Nat} : beh (ent v i) (ent v k) = ahB v k i := by
  unfold beh ahB ent
  rw [← Bool.decide_and, ← Bool.decide_or]
  exact decide_eq_decide.2 (by constructor <;> rintro (h | ⟨h1, h2⟩) <;> first | exact .inl h | exact .inr ⟨h1.symm, h2⟩)
theorem getD_take {v : List Int} {m i : Nat} (h : i < m) : (v.take m).getD i 0 = v.getD i 0 := by
  rw [List.getD_eq_getElem?_getD, List.getD_eq_getElem?_getD, List.getElem?_take_of_lt h]
theorem ah_take {v : List Int} {m i k : Nat} (hi : i < m) (hk : k < m) : ahB (v.take m) i k = ahB v i k := by
  unfold ahB
  rw [getD_take hi, getD_take hk]
theorem rk_take {v : List Int} {m i : Nat} (hi : i < m) : ∀ q, q ≤ m → rkM (v.take m) i q = rkM v i q
  | 0, _ => rfl
  | q + 1, h => by rw [rkM, rkM, rk_take hi q (by omega), ah_take (by omega) hi]
theorem rkN_take {v : List Int} {m i : Nat} (hm : m ≤ v.length) (hi : i < m) : rkN (v.take m) i = rkM v i m := by
  unfold rkN
  rw [List.length_take, Nat.min_eq_left hm, rk_take hi m (Nat.le_refl _)]
theorem pk_take_mem {v : List Int} {m k i : Nat} (hm : m ≤ v.length) : i ∈ pkF (v.take m) k ↔ i < m ∧ rkM v i m < k := by
  rw [pkF_mem, List.length_take, Nat.min_eq_left hm]
  constructor
  · rintro ⟨h1, h2⟩
    exact ⟨h1, by rwa [rkN_take hm h1] at h2⟩
  · rintro ⟨h1, h2⟩
    exact ⟨h1, by rwa [rkN_take hm h1]⟩
theorem take_len' {v : List Int} {m : Nat} (hm : m ≤ v.length) : (v.take m).length = m := by rw [List.length_take, Nat.min_eq_left hm]
theorem pk_few {v : List Int} {m k : Nat} (hm : m ≤ v.length) (hk : m ≤ k) : pkF (v.take m) k = List.range m := by
  unfold pkF
  rw [take_len' hm, List.filter_eq_self]
  intro i hi
  have hi := List.mem_range.1 hi
  rw [rkN_take hm hi]
  exact decide_eq_true (Nat.lt_of_lt_of_le (rkM_lt v i m hi) hk)
/-- What the heap holds when m numbers have been met, k of them kept. -/
def ctn (v : List Int) (m k : Nat) : List (Nat × Nat) := (pkF (v.take m) k).map (ent v)
theorem ctn_zero (v : List Int) (k : Nat) : ctn v 0 k = [] := by
  unfold ctn pkF
  simp
theorem ctn_len {v : List Int} {m k : Nat} (hm : m ≤ v.length) : (ctn v m k).length = min m k := by
  unfold ctn
  rw [List.length_map]
  by_cases h : m ≤ k
  · rw [pk_few hm h, List.length_range, Nat.min_eq_left h]
  · rw [pkF_len (by rw [take_len' hm]; omega), Nat.min_eq_right (by omega)]
theorem ctn_all (v : List Int) (k : Nat) : ctn v v.length k = (pkF v k).map (ent v) := by unfold ctn; rw [List.take_length]
/-- One more is met while there is room. -/
theorem ctn_more {v : List Int} {m k : Nat} (hm : m < v.length) (h : m < k) : ctn v (m + 1) k = ctn v m k ++ [ent v m] := by
  unfold ctn
  rw [pk_few (by omega) (by omega), pk_few (by omega) (by omega), List.range_succ, List.map_append]
  rfl
theorem ent_inj (v : List Int) {i j : Nat} (h : ent v i = ent v j) : i = j := congrArg Prod.fst h
/-- One more is met where there is none: the one that goes is the one of all these that is behind all others. -/
theorem ctn_full {v : List Int} {m k : Nat} (hm : m < v.length) (h : k ≤ m) {x : Nat × Nat} {l : List (Nat × Nat)} (hp : (x :: l).Perm (ctn v m k ++ [ent v m])) (hx : ∀ y ∈ l, beh y x = false) : l.Perm (ctn v (m + 1) k) := by
  -- those that stay, as places
  have hT : ∀ i, i ∈ pkF (v.take (m + 1)) k → i ∈ pkF (v.take m) k ++ [m] := fun i hi => by
    obtain ⟨h1, h2⟩ := (pk_take_mem (by omega)).1 hi
    rw [List.mem_append, List.mem_singleton]
    by_cases e : i = m
    · exact .inr e
    · refine .inl ((pk_take_mem (by omega)).2 ⟨by omega, ?_⟩)
      have : rkM v i m ≤ rkM v i (m + 1) := by rw [rkM]; omega
      omega
  have hSn : (pkF (v.take m) k ++ [m]).Nodup := by
    rw [List.nodup_append]
    refine ⟨pkF_nodup _ _, by simp, fun a ha b hb e => ?_⟩
    rw [List.mem_singleton] at hb
    have := ((pk_take_mem (by omega)).1 ha).1
    omega
  have hSl : (pkF (v.take m) k ++ [m]).length = k + 1 := by
    rw [List.length_append, pkF_len (by rw [take_len' (by omega)]; omega)]
    rfl
  have hTl : (pkF (v.take (m + 1)) k).length = k := pkF_len (by rw [take_len' (by omega)]; omega)
  have hTn := pkF_nodup (v.take (m + 1)) k
  have hmap : ctn v m k ++ [ent v m] = (pkF (v.take m) k ++ [m]).map (ent v) := by unfold ctn; rw [List.map_append]; rfl
  rw [hmap] at hp
  -- the one that goes is a place, too
  obtain ⟨y, hy, rfl⟩ := List.mem_map.1 (hp.mem_iff.1 List.mem_cons_self)
  have hyT : y ∉ pkF (v.take (m + 1)) k := by
    intro hyT
    -- somebody is not among those that stay, and this one is ahead of y
    have hex : ∃ z, z ∈ pkF (v.take m) k ++ [m] ∧ z ∉ pkF (v.take (m + 1)) k := Classical.byContradiction fun hno => by
      have hsub : ∀ z, z ∈ pkF (v.take m) k ++ [m] → z ∈ pkF (v.take (m + 1)) k := fun z hz => Classical.byContradiction fun hn => hno ⟨z, hz, hn⟩
      have hperm := (List.perm_ext_iff_of_nodup hSn hTn).2 fun z => ⟨hsub z, hT z⟩
      have := hperm.length_eq
      omega
    obtain ⟨z, hz, hzT⟩ := hex
    have hzm : z < m + 1 := by
      rw [List.mem_append, List.mem_singleton] at hz
      rcases hz with hz | hz
      · have := ((pk_take_mem (by omega)).1 hz).1
        omega
      · omega
    have hym := (pk_take_mem (show m + 1 ≤ v.length by omega)).1 hyT
    have hzr : ¬ rkM v z (m + 1) < k := fun hlt => hzT ((pk_take_mem (by omega)).2 ⟨hzm, hlt⟩)
    have hne : z ≠ y := fun e => by rw [e] at hzT; exact hzT hyT
    have hah : ahB v y z = true := by
      rcases ah_tot (v := v) hne with h1 | h1
      · have := rkM_mono h1 (m + 1)
        omega
      · exact h1
    have hzl : ent v z ∈ l := by
      have := hp.mem_iff.2 (List.mem_map.2 ⟨z, hz, rfl⟩)
      rcases List.mem_cons.1 this with e | e
      · exact absurd (ent_inj v e) hne
      · exact e
    have := hx _ hzl
    rw [beh_ent, hah] at this
    cases this
  have hfin : (y :: pkF (v.take (m + 1)) k).Perm (pkF (v.take m) k ++ [m]) := by
    have hn1 : (y :: pkF (v.take (m + 1)) k).Nodup := List.nodup_cons.2 ⟨hyT, hTn⟩
    have hsub : (y :: pkF (v.take (m + 1)) k) ⊆ pkF (v.take m) k ++ [m] := fun z hz => by
      rcases List.mem_cons.1 hz with rfl | hz
      · exact hy
      · exact hT z hz
    refine (List.perm_ext_iff_of_nodup hn1 hSn).2 fun z => ⟨fun hz => hsub hz, fun hz => Classical.byContradiction fun hn => ?_⟩
    have hn2 : (z :: y :: pkF (v.take (m + 1)) k).Nodup := List.nodup_cons.2 ⟨hn, hn1⟩
    have := List.Nodup.length_le_of_subset hn2 (l₂ := pkF (v.take m) k ++ [m]) (fun q hq => by
      rcases List.mem_cons.1 hq with rfl | hq
      · exact hz
      · exact hsub hq)
    rw [hSl, List.length_cons, List.length_cons, hTl] at this
    omega
  have h2 := (hfin.map (ent v)).symm
  rw [List.map_cons] at h2
  exact (hp.trans h2).cons_inv
/-- The places of all that the heap holds, sorted. -/
theorem pk_sorted {v : List Int} {k : Nat} {l : List Int} (hp : l.Perm ((pkF v k).map fun (i : Nat) => (i : Int))) : l.mergeSort (fun x y => decide (x ≤ y)) = pkI v k := by
  have h1 := List.pairwise_mergeSort (le := fun x y : Int => decide (x ≤ y)) (fun a b c h1 h2 => by simp at *; omega) (fun a b => by simp; omega) l
  have h2 : (l.mergeSort (fun x y => decide (x ≤ y))).Perm (pkI v k) := (List.mergeSort_perm l _).trans hp
  refine List.Perm.eq_of_pairwise (le := fun x y : Int => x ≤ y) (fun a b _ _ h3 h4 => by omega) (h1.imp fun h => by simpa using h) ((pkI_ris v k).imp fun h => by omega) h2
/-- All in order, as the sort leaves them. -/
theorem ord_sorted {v : List Int} {l : List (Nat × Nat)} (hp : l.Perm ((List.range v.length).map (ent v))) (hs : l.Pairwise fun x y => beh x y = false) : l.map Prod.fst = ordT v := by
  have h1 : ((ordT v).map (ent v)).Perm ((List.range v.length).map (ent v)) := by
    refine List.Perm.map _ ?_
    rw [← pk_all]
    have := (pkF_perm (v := v) (Nat.le_refl v.length)).symm
    rwa [show (ordT v).take v.length = ordT v by rw [← ordT_len v, List.take_length]] at this
  have h2 : ((ordT v).map (ent v)).Pairwise fun x y => beh x y = false := by
    rw [List.pairwise_map]
    unfold ordT
    rw [List.pairwise_map]
    refine List.Pairwise.imp_of_mem (R := (· < ·)) (fun {a b} ha hb hab => ?_) List.pairwise_lt_range
    obtain ⟨a1, a2⟩ := atR_is (v := v) (List.mem_range.1 ha)
    obtain ⟨b1, b2⟩ := atR_is (v := v) (List.mem_range.1 hb)
    rw [beh_ent]
    exact ah_not ((rk_iff a1 b1).1 (by omega))
  have e : l = (ordT v).map (ent v) := List.Perm.eq_of_pairwise (le := fun x y => beh x y = false) (fun a b _ _ h3 h4 => beh_eq h3 h4) hs h2 (hp.trans h1.symm)
  rw [e, List.map_map]
  refine List.ext_getElem? fun i => ?_
  rw [List.getElem?_map]
  cases (ordT v)[i]? <;> rfl
end Go.Proofs.YtjkhdfncahhnoaaGreat
/- Sizes, which place is ahead, an order of all: by the document. -/
namespace Go.Proofs.YtjkhdfncahhnoaaGreat
open Go.RowKit
set_option maxHeartbeats 400000
set_option maxRecDepth 100000
set_option linter.unusedVariables false
/-- An order's error, and the order. -/
def orkE (v : List Int) : Int := if 4096 < v.length then 3 else 0
def orkV (v : List Int) : List Int := if orkE v = 0 then (ordT v).map fun (i : Nat) => (i : Int) else []
theorem orkE_ok {v : List Int} : orkE v = 0 ↔ v.length ≤ 4096 := by unfold orkE; split <;> omega
theorem orkV_len {v : List Int} (h : orkE v = 0) : (orkV v).length = v.length := by unfold orkV; rw [if_pos h, List.length_map, ordT_len]
theorem orkV_le (v : List Int) : (orkV v).length ≤ v.length := by
  unfold orkV
  split
  · rw [List.length_map, ordT_len]; exact Nat.le_refl _
  · simp
/-- The places found by those below m. -/
def oF (v : List Int) (m j : Nat) : Nat := if atR v j < m then atR v j else 0
theorem oF_step {v : List Int} {m j : Nat} (hm : m < v.length) (hj : j < v.length) : oF v (m + 1) j = if j = rkN v m then m else oF v m j := by
  obtain ⟨h1, h2⟩ := atR_is hj
  by_cases e : j = rkN v m
  · have e2 : atR v j = m := by rw [e, atR_of hm]
    unfold oF
    rw [if_pos e, e2, if_pos (by omega)]
  · have e2 : atR v j ≠ m := fun h => e (by rw [← h2, h])
    unfold oF
    rw [if_neg e]
    by_cases h3 : atR v j < m
    · rw [if_pos h3, if_pos (by omega)]
    · rw [if_neg h3, if_neg (by omega)]
theorem oF_all {v : List Int} {j : Nat} (hj : j < v.length) : oF v v.length j = atR v j := if_pos (atR_is hj).1
theorem szN_le {n : Int} (h : I64 n) : szN n ≤ 9223372036854775808 := by unfold szN; unfold I64 at h; omega
theorem ret_of9 {v R : Bool} (h : v = true ↔ R = true) : Ending.returned (Value.bool v) = Ending.returned (Value.bool R) := by
  have : v = R := by cases v <;> cases R <;> simp_all
  rw [this]
theorem own_ordT {w : World} {b M : Nat} {v : List Int} (h : w.rowIs b 3 M (fun j => .int .i64 (oF v M j : Int))) (hM : v.length = M) (hl : M ≤ 4096) {B : Nat} (hB : B ≤ b) :
    w.ownsRow B 3 1 (.slice (some ⟨b, 0, none⟩) M M) M (((ordT v).map fun (i : Nat) => (i : Int)).map (Value.int .i64)) := by
  have h2 := own_made (w' := w) h hB (by unfold maxLen; omega)
  have e : ((ordT v).map fun (i : Nat) => (i : Int)).map (Value.int .i64) = (List.range M).map fun j => .int .i64 (oF v M j : Int) := by
    unfold ordT
    rw [List.map_map, List.map_map, hM]
    refine List.map_congr_left fun j hj => ?_
    have hj' : j < v.length := by rw [hM]; exact List.mem_range.1 hj
    have := oF_all hj'
    rw [hM] at this
    rw [this]
    rfl
  rw [e]
  exact h2
end Go.Proofs.YtjkhdfncahhnoaaGreat
/- A law's frame: where a call answers true and nothing that was there has turned, the given row's post holds, whatever the arguments are made of. -/
namespace Go.Proofs.YtjkhdfncahhnoaaGreat
open Go.ChangeShapes Go.WideShapes Go.ChangeAt Go.RowKit
set_option maxRecDepth 100000
set_option linter.unusedVariables false

theorem own : ownKnob Tryz.prog.godebug = none := by kernel_rfl
theorem laid : laidOutB Tryz.prog = true := by kernel_rfl

section
variable {H : Type} {enc : TypeId × Value → H} {P : Program}

theorem all_stay (hl : laidOutB P = true) {W W' : World} (hb : Below W.heap.size W W') {sp : Nat → Bool} :
    ∀ (ts : List TypeId) (vs : List Value) (ds : List (DataW H)) (ps : List MemPlace), (∀ t ∈ ts, P.readableRec t = true ∧ t < P.types.size) →
      DataW.TrodAll enc P W 0 (fun _ => true) true ts vs ds ps → (∀ x ∈ ps, x.block < W.heap.size) → (∀ x ∈ ps, sp x.block = true) → DataW.TrodAll enc P W' 0 sp true ts vs ds ps
  | [], [], [], ps, _, h, _, _ => h
  | [], [], _ :: _, _, _, h, _, _ => h.elim
  | [], _ :: _, _, _, _, h, _, _ => h.elim
  | _ :: _, [], _, _, _, h, _, _ => h.elim
  | _ :: _, _ :: _, [], _, _, h, _, _ => h.elim
  | t :: ts, v :: vs, d :: ds, ps, hr, h, hlt, hsp => by
    obtain ⟨p, q, h1, h2, rfl⟩ := h
    have ht := hr t (by simp)
    refine ⟨p, q, WideElems.Trod_stays hl ht.1 ht.2 h1 (fun x hx => hb.same (hlt x (by simp [hx]))) (fun x hx => hsp x (by simp [hx])), ?_, rfl⟩
    exact all_stay hl hb ts vs ds q (fun t' ht' => hr t' (by simp [ht'])) h2 (fun x hx => hlt x (by simp [hx])) (fun x hx => hsp x (by simp [hx]))

theorem law_post {f : Func} {s : ChangeSpec} {apart fresh handsOn again : Bool} {W W' : World} {args : Array Value} {ds gs : List (DataW H)} {before : List MemPlace} {tb : TypeId}
    (hl : laidOutB P = true) (hts : ∀ t ∈ f.params.toList, P.readableRec t = true ∧ t < P.types.size) (hv : s.vars = [])
    (hW : DataW.Whole enc P f.params.toList s.vars apart W args.toList ds gs before)
    (hs : (s.fn H (ds ++ gs)).results = [.lit (.bool true)] ∧ (s.fn H (ds ++ gs)).args = ds ∧ (s.fn H (ds ++ gs)).vars = [])
    (hr : f.resultTypes = #[tb]) (htb : P.underlying tb = some .bool) (hb : Below W.heap.size W W') :
    s.post enc P f apart fresh handsOn again W args (.bool true) W' := by
  have hlt : ∀ p ∈ before, p.block < W.heap.size := fun p hp => hW.lt p hp
  have hW0 := hW
  obtain ⟨p, q, h1, h2, e, hz, hn⟩ := hW
  rw [hv] at h2
  cases gs with
  | cons _ _ => exact h2.elim
  | nil =>
    have hq : q = [] := h2
    subst hq
    simp only [List.append_nil] at e
    subst e
    have stay : ∀ sp : Nat → Bool, (∀ x ∈ before, sp x.block = true) → DataW.TrodAll enc P W' 0 sp true f.params.toList args.toList (s.fn H (ds ++ [])).args before :=
      fun sp hsp => by rw [hs.2.1]; exact all_stay hl hb _ _ _ _ hts h1 hlt hsp
    have vars : ∀ sp : Nat → Bool, DataW.TrodVars enc P W' sp s.vars (s.fn H (ds ++ [])).vars [] := fun sp => by rw [hs.2.2, hv]; rfl
    have res : ∀ (b : Nat) (sp : Nat → Bool) (hd : Bool), DataW.TrodAll enc P W' b sp hd f.resultTypes.toList ((Value.bool true).resultList f.resultTypes.size) (s.fn H (ds ++ [])).results [] := by
      intro b sp hd
      rw [hs.1, hr]
      exact trodAll_mk1 (shut_bool htb true)
    refine ⟨ds, [], before, [], before, [], hW0, res _ _ _, stay _ (fun x hx => by simpa using hlt x hx), vars _, ?_, fun _ => ?_⟩
    · exact World.keptBut_mono (fun x hx => ⟨hx, by simpa using hx⟩) (hb.frame (· ∈ before))
    · refine ⟨?_, _, _, ([] ++ before) ++ [], ⟨[] ++ before, [], trodAll_append (stay _ (fun _ _ => rfl)) (res _ _ _), vars _, rfl, ?_, ?_⟩, ?_⟩
      · exact ok_one hr rfl (okWide_bool_mk htb true)
      · intro b off hp
        have hin : MemPlace.cell b off ∈ before := by simpa using hp
        rw [hb.frozen (hlt _ hin)]
        exact hz b off hin
      · intro ha
        simpa using hn ha
      · intro x hx _
        simpa using hx
end
end Go.Proofs.YtjkhdfncahhnoaaGreat
/- An argument that is a list of whole numbers of one kind, opened. -/
namespace Go.Proofs.YtjkhdfncahhnoaaGreat
open Go.ChangeShapes Go.WideShapes Go.ChangeAt Go.RowKit
set_option maxRecDepth 100000
set_option linter.unusedVariables false
section
variable {H : Type} {enc : TypeId × Value → H} {P : Program} {W : World}
theorem nums_rd {k : IntKind} {a : Addr} {zs xs : List Int} {m : Nat} (hm : xs = zs.take m) (hc : ∀ i, i < m → W.cell? (a.add i) = some (.int k (zs.getD i 0))) : Rd (Value.int k) W W.heap.size (some a) xs := fun j x hx => by
  subst hm
  have hk : j < (zs.take m).length := (List.getElem?_eq_some_iff.1 hx).1
  have hkm : j < m := by rw [List.length_take] at hk; omega
  obtain ⟨b, off, spot⟩ := a
  have hs : spot = none := by simpa [Addr.add] using World.cell?_spot (hc 0 (by omega))
  subst hs
  have h := hc j hkm
  rw [Go.WideShapes.add_plain] at h
  have hz : zs.getD j 0 = x := by
    rw [List.getElem?_take_of_lt hkm] at hx
    simp [List.getD, hx]
  rw [hz] at h
  exact ⟨b, off, rfl, lt_of_cell h, h⟩
theorem open_nums {k : IntKind} {r : Reach} {t e : TypeId} {v : Value} {d : DataW H} {ps : List MemPlace} (ht : P.underlying t = some (.slice e)) (he : P.underlying e = some (.int k)) (hc : P.cellsOf e = 1) {b0 : Nat}
    (hval : Value.okWide P W r b0 t v) (hd : DataW.Trod enc P W 0 (fun _ => true) true t v d ps) :
    ∃ A xs c, v = .slice A xs.length c ∧ Rd (Value.int k) W W.heap.size A xs ∧ (∀ x ∈ xs, (Lit.int k x).wf = true) ∧ xs.length ≤ c ∧ c ≤ 9223372036854775807 := by
  obtain ⟨A, len, cap, rfl⟩ := okWide_slice ht hval
  obtain ⟨fuel, hf⟩ := hd
  rcases open_ints ht he hc hf with ⟨hcs, _⟩ | ⟨a, len', cap', zs, hcs, _, hl, hm, hz, _, hcell, hwz⟩
  · simp [Value.cells] at hcs
    obtain ⟨rfl, rfl, rfl⟩ := hcs
    exact ⟨none, [], 0, rfl, Rd.none_, by intro x hx; simp at hx, by simp, by omega⟩
  · simp [Value.cells] at hcs
    obtain ⟨rfl, rfl, rfl⟩ := hcs
    simp only [if_true] at hz
    have hlen : (zs.take len).length = len := by rw [List.length_take]; omega
    refine ⟨some a, zs.take len, cap, by rw [hlen], nums_rd rfl fun i hi => hcell i (by omega), fun x hx => hwz x (List.mem_of_mem_take hx), by omega, by unfold maxLen at hm; omega⟩
/-- .. and the datum that it reads as is as long. -/
theorem open_numsd {k : IntKind} {r : Reach} {t e : TypeId} {v : Value} {d : DataW H} {ps : List MemPlace} (ht : P.underlying t = some (.slice e)) (he : P.underlying e = some (.int k)) (hc : P.cellsOf e = 1) {b0 : Nat}
    (hval : Value.okWide P W r b0 t v) (hd : DataW.Trod enc P W 0 (fun _ => true) true t v d ps) :
    ∃ A xs c, v = .slice A xs.length c ∧ Rd (Value.int k) W W.heap.size A xs ∧ (∀ x ∈ xs, (Lit.int k x).wf = true) ∧ xs.length ≤ c ∧ c ≤ 9223372036854775807 ∧ (xs = [] ∨ ∃ es sp, d = .slice es sp ∧ es.length = xs.length) := by
  obtain ⟨A, xs, c, rfl, h1, h2, h3, h4⟩ := open_nums ht he hc hval hd
  refine ⟨A, xs, c, rfl, h1, h2, h3, h4, ?_⟩
  obtain ⟨fuel, hf⟩ := hd
  rcases open_ints ht he hc hf with ⟨hcs, _⟩ | ⟨a, len', cap', zs, hcs, _, hl, hm, hz, hx, _, _⟩
  · left
    simp [Value.cells] at hcs
    exact List.length_eq_zero_iff.1 (by rw [hcs.2.1]; rfl)
  · right
    simp [Value.cells] at hcs
    obtain ⟨rfl, e1, rfl⟩ := hcs
    simp only [if_true] at hz
    injection hx with hx _
    refine ⟨_, _, hx, ?_⟩
    rw [e1]
    simp [lits, List.length_take]
    omega
theorem U64.of_wf {a : Int} (h : (Lit.int .u64 a).wf = true) : U64 a := by
  simp [Lit.wf, IntKind.min, IntKind.max, IntKind.signed, IntKind.bits] at h
  unfold U64; omega
theorem U32.of_wf {a : Int} (h : (Lit.int .u32 a).wf = true) : 0 ≤ a ∧ a ≤ 4294967295 := by
  simp [Lit.wf, IntKind.min, IntKind.max, IntKind.signed, IntKind.bits] at h
  omega
end
end Go.Proofs.YtjkhdfncahhnoaaGreat
