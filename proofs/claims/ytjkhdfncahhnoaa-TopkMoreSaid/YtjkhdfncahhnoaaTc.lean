
/- Tc: texts joined: TkB IxE TkO. -/
import Derived.Test.YtjkhdfncahhnoaaTb
import Derived.Test.YtjkhdfncahhnoaaTIxC
import Derived.Test.YtjkhdfncahhnoaaTa
/- What is picked, the least size of some: by the document. -/
namespace Go.Proofs.Ytjkhdfncahhnoaa
open Go.RowKit
set_option maxHeartbeats 400000
set_option maxRecDepth 100000
set_option linter.unusedVariables false
/-- The first k, rising; its error. -/
def pikE (v : List Int) (k : Int) : Int := if orkE v ≠ 0 then orkE v else if k < 0 ∨ (v.length : Int) < k then 1 else 0
def pikV (v : List Int) (k : Int) : List Int := if pikE v k = 0 then pkI v k.toNat else []
theorem pikE_ok {v : List Int} {k : Int} : pikE v k = 0 ↔ v.length ≤ 4096 ∧ 0 ≤ k ∧ k ≤ v.length := by
  unfold pikE
  by_cases h : orkE v = 0
  · have := orkE_ok.1 h
    rw [if_neg (by omega)]
    split <;> omega
  · have : ¬ v.length ≤ 4096 := fun h2 => h (orkE_ok.2 h2)
    rw [if_pos h]
    omega
theorem pikV_len {v : List Int} {k : Int} (h : pikE v k = 0) : ((pikV v k).length : Int) = k := by
  have h2 := pikE_ok.1 h
  unfold pikV
  rw [if_pos h, pkI_len (by omega)]
  omega
theorem pikV_le (v : List Int) (k : Int) : (pikV v k).length ≤ v.length := by
  by_cases h : pikE v k = 0
  · have h2 := pikE_ok.1 h
    have := pikV_len h
    omega
  · unfold pikV
    rw [if_neg h]
    simp
theorem mrg_pick {v : List Int} {k : Nat} (h : orkE v = 0) (hk : k ≤ v.length) : mrgV [(orkV v).take k] = pkI v k := by
  refine (mrgV_eq (pkI_ris v k) fun x => ?_).symm
  unfold orkV pkI
  rw [if_pos h, ← List.map_take]
  simp only [List.mem_singleton, exists_eq_left, List.mem_map]
  constructor
  · rintro ⟨i, hi, rfl⟩
    exact ⟨i, (pkF_ord hk).1 hi, rfl⟩
  · rintro ⟨i, hi, rfl⟩
    exact ⟨i, (pkF_ord hk).2 hi, rfl⟩
theorem ref_Pick9 {A : Option Addr} {c : Nat} (k : Int) (v : List Int) (uv : ∀ x ∈ v, I64 x) (hl : v.length ≤ 9223372036854775807) (w : World) (ra : Rd (Value.int .i64) w w.heap.size A v) :
    Calls Try.prog 12 #[.int .i64 k, .slice A v.length c] w (OwnE 3 .i64 w.heap.size (pikV v k) (pikE v k) w) := by
  have C := hid (ref_Order9 (A := A) (c := c) v uv hl w ra)
  by_cases h : orkE v = 0
  · have hL := orkV_len h
    have h4 := orkE_ok.1 h
    rw [h] at C
    by_cases hk : k < 0 ∨ (v.length : Int) < k
    · have he : pikE v k = 1 := by unfold pikE; rw [if_neg (by rw [h]; decide), if_pos hk]
      have hv : pikV v k = [] := if_neg (by rw [he]; decide)
      rw [he, hv]
      have hk' : k < 0 ∨ (k > (v.length : Int) ∧ ¬ k < 0) := by omega
      clear he hv h hL ra uv hk
      rcases hk' with hk | ⟨hk, hk2⟩
      · go_enter Try.func12, Try.ntmps12
        go_wp2_with fail
        refine C.out.mono ?_
        rintro _ w1 ⟨A1, c1, rfl, _, hb⟩
        go_wp2_with fail
        go_ret2
        exact .nil hb
      · go_enter Try.func12, Try.ntmps12
        go_wp2_with fail
        refine C.out.mono ?_
        rintro _ w1 ⟨A1, c1, rfl, _, hb⟩
        go_wp2_with fail
        go_ret2
        exact .nil hb
    · have he : pikE v k = 0 := pikE_ok.2 (by omega)
      have hv : pikV v k = pkI v k.toNat := if_pos he
      obtain ⟨K, rfl⟩ := Int.eq_ofNat_of_zero_le (show 0 ≤ k by omega)
      have hK : K ≤ v.length := by omega
      have hm := mrg_pick h hK
      rw [Int.toNat_natCast] at hv
      rw [he, hv, ← hm]
      obtain ⟨L, hLL⟩ : ∃ L, orkV v = L := ⟨_, rfl⟩
      rw [hLL] at C hL ⊢
      have hTl : (L.take K).length = K := by rw [List.length_take]; omega
      have CM := hid (fun (A : Option Addr) (W : World) (h : RdRows W W.heap.size A [L.take K]) => ref_Merge (A := A) (c := 1) [L.take K] (by simp) (by simp; omega) W h)
      rw [show ([L.take K] : List (List Int)).length = 1 from rfl] at CM
      obtain ⟨R, hR⟩ : ∃ R, mrgV [L.take K] = R := ⟨_, rfl⟩
      rw [hR] at CM ⊢
      have HTL := hid hTl
      have h1 : ¬ ((K : Int) > (v.length : Int)) := by omega
      have HL := hid hL
      have hKL : K ≤ L.length := by omega
      clear he hv h hm hLL hR hTl ra uv hk hL
      go_enter Try.func12, Try.ntmps12
      go_wp2_with fail
      refine C.out.mono ?_
      rintro _ w1 ⟨A1, c1, rfl, ho, hb⟩
      have hcap := own_cap ho
      have hsl := fun W => run_upto (P := Try.prog) 23 Try.underlying23 Try.sizeOf3 A1 L.length c1 K (by omega) W
      have hrd := (own_rd ho).cut0 (c := c1) (by omega) K
      have HRR := hid (rows_one (c := c1) (L.take K) w1 hrd 23)
      rw [HTL.out] at HRR
      have HB := hid hb
      have hg : Below w1.heap.size w1 (w1.alloc (.cells #[.slice (cutA A1 0 c1) K c1] 23)) := (Below.refl _ _).alloc (Nat.le_refl _) _
      have CM2 := hid (CM.out _ _ HRR.out)
      clear C CM ho hb hrd HRR
      obtain ⟨A2, hA2⟩ : ∃ A2, cutA A1 0 c1 = A2 := ⟨_, rfl⟩
      rw [hA2] at hsl hg CM2
      clear hA2
      go_wp2_with fail
      refine CM2.out.mono ?_
      rintro _ w2 ⟨A3, c3, rfl, ho3, hb3⟩
      have HO := hid (own_base ho3 (show w.heap.size ≤ _ from Nat.le_trans HB.out.size hg.size))
      have k3 := HB.out.trans ((hg.trans (hb3.mono hg.size)).mono HB.out.size)
      clear ho3 hb3
      go_wp2_with fail
      go_ret2
      exact ⟨A3, c3, rfl, HO.out, k3⟩
  · have he : pikE v k = orkE v := if_pos h
    have hv : pikV v k = [] := if_neg (by rw [he]; exact h)
    rw [he, hv]
    obtain ⟨E, hE⟩ : ∃ E, orkE v = E := ⟨_, rfl⟩
    rw [hE] at C h ⊢
    have hne : (E != 0) = true := by simpa using h
    clear he hv hE h ra uv
    go_enter Try.func12, Try.ntmps12
    go_wp2_with fail
    refine C.out.mono ?_
    rintro _ w1 ⟨A1, c1, rfl, _, hb⟩
    go_wp2_with fail
    go_ret2
    exact .nil hb
/-- The least size at some places, and whether there is one. -/
def lsS (v : List Int) (a : Nat × Bool) (n : Int) : Nat × Bool :=
  if n < 0 ∨ (v.length : Int) ≤ n then a else if a.2 = false ∨ szN (v.getD n.toNat 0) < a.1 then (szN (v.getD n.toNat 0), true) else a
def lstR (l v : List Int) : Nat × Bool := l.foldl (lsS v) (0, false)
theorem lst_snoc {l : List Int} {k : Nat} {n : Int} (v : List Int) (h : l[k]? = some n) : lstR (l.take (k + 1)) v = lsS v (lstR (l.take k) v) n := by
  unfold lstR
  rw [take_snoc h, List.foldl_append]
  rfl
theorem lst_bound {v : List Int} (uv : ∀ x ∈ v, I64 x) : ∀ (l : List Int) (a : Nat × Bool), a.1 ≤ 9223372036854775808 → (l.foldl (lsS v) a).1 ≤ 9223372036854775808
  | [], a, h => h
  | n :: l, a, h => by
    refine lst_bound uv l _ ?_
    unfold lsS
    split
    · exact h
    · rename_i h1
      split
      · have hn : n.toNat < v.length := by omega
        refine szN_le (uv _ ?_)
        rw [List.getD_eq_getElem?_getD, List.getElem?_eq_getElem hn, Option.getD_some]
        exact List.getElem_mem hn
      · exact h
theorem ref_Least9 {A B : Option Addr} {c d : Nat} (l v : List Int) (uv : ∀ x ∈ v, I64 x) (hll : l.length ≤ 9223372036854775807) (hl : v.length ≤ 9223372036854775807) (w : World) {L M : Nat} (ra : Rd (Value.int .i64) w L A l) (rb : Rd (Value.int .i64) w M B v) :
    Calls Try.prog 18 #[.slice A l.length c, .slice B v.length d] w fun e w' => e = .returned (.tuple #[.int .u64 ((lstR l v).1 : Int), .bool (lstR l v).2]) ∧ w = w' := by
  have HA := hid ra
  have HB := hid rb
  have UV := hid uv
  have HS := hid (fun k n h => lst_snoc (l := l) (k := k) (n := n) v h)
  have HE : Hid (lstR (l.take l.length) v = lstR l v) := hid (by rw [List.take_length])
  have H0 : Hid (lstR (l.take 0) v = (0, false)) := rfl
  have HBd := hid (fun k => lst_bound uv (l.take k) (0, false) (by simp))
  clear ra rb uv
  go_enter Try.func18, Try.ntmps18
  go_wp2_with fail
  go_loop [6, 7, 9, 10, 13] (fun x6 x7 x9 x10 i => ∃ k : Nat, k ≤ l.length ∧ i = .int .i64 k ∧ x6 = .int .u64 ((lstR (l.take k) v).1 : Int) ∧ x7 = .bool (lstR (l.take k) v).2) (fun _ _ _ _ i => l.length - (intOf i).toNat)
  case atStart => exact ⟨0, by omega, rfl, by rw [H0.out]; rfl, by rw [H0.out]⟩
  case round =>
    obtain ⟨k, hk, rfl, rfl, rfl⟩ := hrel
    by_cases hlt : k < l.length
    · obtain ⟨b1, o1, n, rfl, l1, en, c1⟩ := HA.out.at_ hlt
      have HSn := hid (HS.out k n en)
      have HBk : Hid ((lstR (l.take k) v).1 ≤ 9223372036854775808) := hid (HBd.out k)
      obtain ⟨⟨a, s⟩, ha⟩ : ∃ a, lstR (l.take k) v = a := ⟨_, rfl⟩
      rw [ha] at HSn HBk ⊢
      simp only at HBk ⊢
      have hbk := HBk.out
      clear en ha
      by_cases h1 : n < 0
      · have HR : Hid (lstR (l.take (k + 1)) v = (a, s)) := hid (by rw [HSn.out]; unfold lsS; rw [if_pos (by omega)])
        go_wp2_with fail
        go_round
        case rel => exact ⟨k + 1, by omega, by go_num, by rw [HR.out], by rw [HR.out]⟩
        case measure => simp [intOf]; omega
      · by_cases h2 : n ≥ (v.length : Int)
        · have HR : Hid (lstR (l.take (k + 1)) v = (a, s)) := hid (by rw [HSn.out]; unfold lsS; rw [if_pos (by omega)])
          go_wp2_with fail
          go_round
          case rel => exact ⟨k + 1, by omega, by go_num, by rw [HR.out], by rw [HR.out]⟩
          case measure => simp [intOf]; omega
        · obtain ⟨m, rfl⟩ := Int.eq_ofNat_of_zero_le (show 0 ≤ n by omega)
          have hm : m < v.length := by omega
          obtain ⟨b2, o2, x, rfl, l2, ex, c2⟩ := HB.out.at_ hm
          have hx := UV.out x (List.mem_of_getElem? ex)
          have CS := hid (ref_Size9 x hx w)
          have HG : Hid (lstR (l.take (k + 1)) v = if s = false ∨ szN x < a then (szN x, true) else (a, s)) := hid (by
            rw [HSn.out]
            unfold lsS
            rw [if_neg (by omega), Int.toNat_natCast, getD_of ex])
          have hsz := szN_le hx
          obtain ⟨z, hz⟩ : ∃ z, szN x = z := ⟨_, rfl⟩
          rw [hz] at CS HG hsz
          clear ex hx hz HSn
          cases s with
          | false =>
            have HR : Hid (lstR (l.take (k + 1)) v = (z, true)) := hid (by rw [HG.out, if_pos (.inl rfl)])
            clear HG
            go_wp2_with fail
            refine CS.out.mono ?_
            rintro _ _ ⟨rfl, rfl⟩
            go_wp2_with fail
            go_round
            case rel => exact ⟨k + 1, by omega, by go_num, by rw [HR.out], by rw [HR.out]⟩
            case measure => simp [intOf]; omega
          | true =>
            by_cases h3 : z < a
            · have HR : Hid (lstR (l.take (k + 1)) v = (z, true)) := hid (by rw [HG.out, if_pos (.inr h3)])
              clear HG
              have h3' : (z : Int) < (a : Int) := by omega
              go_wp2_with fail
              refine CS.out.mono ?_
              rintro _ _ ⟨rfl, rfl⟩
              go_wp2_with fail
              go_round
              case rel => exact ⟨k + 1, by omega, by go_num, by rw [HR.out], by rw [HR.out]⟩
              case measure => simp [intOf]; omega
            · have HR : Hid (lstR (l.take (k + 1)) v = (a, true)) := hid (by rw [HG.out, if_neg (by simp; omega)])
              clear HG
              have h3' : ¬ ((z : Int) < (a : Int)) := by omega
              go_wp2_with fail
              refine CS.out.mono ?_
              rintro _ _ ⟨rfl, rfl⟩
              go_wp2_with fail
              go_round
              case rel => exact ⟨k + 1, by omega, by go_num, by rw [HR.out], by rw [HR.out]⟩
              case measure => simp [intOf]; omega
    · obtain rfl : k = l.length := by omega
      rw [HE.out]
      go_wp2_with fail
      go_ret2
      exact ⟨rfl, rfl⟩
end Go.Proofs.Ytjkhdfncahhnoaa
/- What is told the same; lists just laid. -/
namespace Go.Proofs.Ytjkhdfncahhnoaa
open Go.RowKit
set_option maxHeartbeats 400000
set_option maxRecDepth 100000
set_option linter.unusedVariables false
/-- Places told, where they end, an error, named one by one. -/
def OwnX (xs : List Int) (a er : Int) (w : World) (e : Ending) (w' : World) : Prop :=
  ∃ A c, e = .returned (.tuple #[.slice A xs.length c, .int .i64 a, .int .i64 er]) ∧ w'.ownsRow w.heap.size 3 1 (.slice A xs.length c) xs.length (xs.map (Value.int .i64)) ∧ Below w.heap.size w w'
theorem put_live : pixV 9 [1, 2, 5] = [3, 1, 0, 2] ∧ chkE 9 [1, 2, 5] = 0 := by
  have h : chkE 9 [1, 2, 5] = 0 := by decide
  refine ⟨?_, h⟩
  unfold pixV
  rw [if_pos h]
  show encs [3, 1, 0, 2] = _
  simp [encs, lebI_last]
theorem get_live : gixR 9 [3, 1, 0, 2] 0 = ([1, 2, 5], 4, 0) := by decide
theorem rd_three (w : World) (t : TypeId) (a b c : Int) : Rd (Value.int .i64) (w.alloc (.cells #[.int .i64 a, .int .i64 b, .int .i64 c] t)) (w.alloc (.cells #[.int .i64 a, .int .i64 b, .int .i64 c] t)).heap.size (some ⟨w.heap.size, 0, none⟩) [a, b, c] := rd_new w t [a, b, c]
theorem rd_four8 (w : World) (t : TypeId) (a b c d : Int) : Rd (Value.int .u8) (w.alloc (.cells #[.int .u8 a, .int .u8 b, .int .u8 c, .int .u8 d] t)) (w.alloc (.cells #[.int .u8 a, .int .u8 b, .int .u8 c, .int .u8 d] t)).heap.size (some ⟨w.heap.size, 0, none⟩) [a, b, c, d] := rd_new w t [a, b, c, d]
/-- Equal lists are found so. -/
theorem equal_yes {X : List Int} (hx : X.length ≤ 9223372036854775807) {A B : Option Addr} {c d : Nat} (W : World) {L M : Nat} (h1 : Rd (Value.int .i64) W L A X) (h2 : Rd (Value.int .i64) W M B X) :
    Calls Try.prog 19 #[.slice A X.length c, .slice B X.length d] W fun e w' => e = .returned (.bool true) ∧ Below W.heap.size W w' := by
  have h := ref_Equal (A := A) (B := B) (c := c) (d := d) X X hx hx W h1 h2
  rw [eqB_self] at h
  exact h.mono fun _ _ ⟨h1, n, h2⟩ => ⟨h1, by rw [h2]; exact belowN _ _ _⟩
theorem grow (w : World) (o : Obj) : Below w.heap.size w (w.alloc o) := (Below.refl _ _).alloc (Nat.le_refl _) _
theorem ref_Same64 {A B : Option Addr} {c d : Nat} (xs ys : List Int) (hx : xs.length ≤ 9223372036854775807) (hy : ys.length ≤ 9223372036854775807) (w : World) {L M : Nat}
    (ra : Rd (Value.int .i64) w L A xs) (rb : Rd (Value.int .i64) w M B ys) :
    Calls Try.prog 38 #[.slice A xs.length c, .slice B ys.length d] w fun e w' => e = .returned (.bool (eqB xs ys)) ∧ ∃ n, w' = w.drewN n := by
  by_cases hl : xs.length = ys.length
  · have HA := hid ra
    have HB := hid rb
    clear ra rb
    have h1 : ((xs.length : Int) != (ys.length : Int)) = false := by simp; omega
    have h2 : (xs.length != ys.length) = false := by simp; omega
    have HL := hid hl
    clear hl
    go_enter Try.func38, Try.ntmps38
    go_wp2_with fail
    clear h1 h2
    go_loopw [13] (fun i wr => ∃ k : Nat, k ≤ xs.length ∧ i = .int .i64 k ∧ xs.take k = ys.take k ∧ ∃ n, wr = w.drewN n) (fun i _ => xs.length - (intOf i).toNat)
    case atStart => exact ⟨0, by omega, rfl, rfl, 0, rfl⟩
    case round =>
      obtain ⟨k, hk, rfl, ht, n, rfl⟩ := hrel
      have HT := hid ht
      clear ht
      by_cases hlt : k < xs.length
      · have hlt2 : k < ys.length := by have := HL.out; omega
        obtain ⟨b1, o1, x, rfl, l1, ex, c1⟩ := HA.out.at_ hlt
        obtain ⟨b2, o2, y, rfl, l2, ey, c2⟩ := HB.out.at_ hlt2
        have EX := hid ex
        have EY := hid ey
        clear ex ey
        by_cases e : x = y
        · have e' : (x != y) = false := by simpa using e
          have E := hid e
          clear e
          go_wp2_with fail
          go_quiet (fail)
          go_wp2_with fail
          go_roundw
          case rel => exact ⟨k + 1, by omega, by go_num, take_step HT.out EX.out EY.out E.out, _, rfl⟩
          case measure => simp [intOf]; omega
        · have e' : (x != y) = true := by simpa using e
          go_wp2_with fail
          go_quiet (fail)
          go_wp2_with fail
          go_ret
          rw [eqB_no EX.out EY.out e]
          exact ⟨rfl, drewN_two _ _ _⟩
      · have hke : k = xs.length := by omega
        have HK := hid hke
        clear hke
        go_wp2_with fail
        go_ret
        rw [eqB_yes HT.out HK.out HL.out]
        exact ⟨rfl, _, rfl⟩
  · rw [eqB_len hl]
    have h1 : ((xs.length : Int) != (ys.length : Int)) = true := by simp; omega
    have h2 : (xs.length != ys.length) = true := by simp; omega
    go_enter Try.func38, Try.ntmps38
    go_wp2_with fail
    go_ret
    exact ⟨rfl, 0, rfl⟩
theorem same64_yes {X : List Int} (hx : X.length ≤ 9223372036854775807) {A B : Option Addr} {c d : Nat} (W : World) (h1 : Rd (Value.int .i64) W W.heap.size A X) (h2 : Rd (Value.int .i64) W W.heap.size B X) :
    Calls Try.prog 38 #[.slice A X.length c, .slice B X.length d] W fun e w' => e = .returned (.bool true) ∧ Below W.heap.size W w' := by
  have h := ref_Same64 (A := A) (B := B) (c := c) (d := d) X X hx hx W h1 h2
  rw [eqB_self] at h
  exact h.mono fun _ _ ⟨h1, n, h2⟩ => ⟨h1, by rw [h2]; exact belowN _ _ _⟩
end Go.Proofs.Ytjkhdfncahhnoaa
/- Orders, who is picked, who is left, the least size, scaled and turned: what the laws ask. Plain mathematics. No program in sight. -/
namespace Go.Proofs.Ytjkhdfncahhnoaa
open Go.RowKit
set_option maxRecDepth 100000
set_option linter.unusedVariables false
theorem ork_at {v : List Int} (h : orkE v = 0) {r : Nat} {n : Int} (hn : (orkV v)[r]? = some n) : ∃ m : Nat, n = m ∧ m < v.length ∧ rkN v m = r := by
  have hr : r < v.length := by
    have := (List.getElem?_eq_some_iff.1 hn).1
    rwa [orkV_len h] at this
  unfold orkV at hn
  rw [if_pos h, List.getElem?_map, ordT_at hr] at hn
  simp at hn
  exact ⟨atR v r, hn.symm, (atR_is hr).1, (atR_is hr).2⟩
theorem ork_next {v : List Int} (h : orkE v = 0) {r a b : Nat} (ha : (orkV v)[r]? = some (a : Int)) (hb : (orkV v)[r + 1]? = some (b : Int)) : ahB v a b = true := by
  obtain ⟨m, e, h1, h2⟩ := ork_at h ha
  obtain ⟨m', e', h1', h2'⟩ := ork_at h hb
  obtain rfl : a = m := by omega
  obtain rfl : b = m' := by omega
  exact (rk_iff h1 h1').1 (by omega)
theorem pik_at {v : List Int} {k : Int} (h : pikE v k = 0) {n : Int} (hn : n ∈ pikV v k) : ∃ m : Nat, n = m ∧ m < v.length ∧ m ∈ pkF v k.toNat := by
  unfold pikV at hn
  rw [if_pos h] at hn
  obtain ⟨i, e, hi, hr⟩ := pkI_mem.1 hn
  exact ⟨i, e, hi, pkF_mem.2 ⟨hi, hr⟩⟩
theorem pik_in {v : List Int} {k : Int} (h : pikE v k = 0) {m : Nat} : (m : Int) ∈ pikV v k ↔ m ∈ pkF v k.toNat := by
  unfold pikV pkI
  rw [if_pos h, List.mem_map]
  constructor
  · rintro ⟨i, hi, e⟩
    obtain rfl : i = m := by omega
    exact hi
  · intro hm
    exact ⟨m, hm, rfl⟩
theorem pik_ris (v : List Int) (k : Int) : risP (pikV v k) := by
  unfold pikV
  split
  · exact pkI_ris _ _
  · exact ris_nil
theorem pik_plc {v : List Int} {k : Int} (h : pikE v k = 0) (h0 : v ≠ []) : chkE v.length (pikV v k) = 0 := by
  refine chk_ok.2 ⟨?_, ?_, pik_ris v k, fun n hn => ?_⟩
  · have : v.length ≠ 0 := fun e => h0 (List.length_eq_zero_iff.1 e)
    omega
  · have := (pikE_ok.1 h).1
    omega
  · obtain ⟨m, rfl, hm, _⟩ := pik_at h hn
    omega
theorem pik_left {v : List Int} {k : Int} (h : pikE v k = 0) (h0 : v ≠ []) {n : Int} (hn : n ∈ lfV v.length (pikV v k)) : ∃ m : Nat, n = m ∧ m < v.length ∧ m ∉ pkF v k.toNat := by
  unfold lfV at hn
  rw [if_pos (pik_plc h h0), Int.toNat_natCast] at hn
  obtain ⟨⟨h1, h2⟩, h3⟩ := lfF_mem.1 hn
  obtain ⟨m, rfl⟩ := Int.eq_ofNat_of_zero_le h1
  exact ⟨m, rfl, by omega, fun hm => h3 ((pik_in h).2 hm)⟩
/-- The least of some sizes, all of them of places. -/
theorem lst_is {v : List Int} : ∀ (l : List Int) (a : Nat × Bool), (∀ n ∈ l, 0 ≤ n ∧ n < (v.length : Int)) →
    (l = [] ∧ l.foldl (lsS v) a = a) ∨ ((l.foldl (lsS v) a).2 = true ∧ ((∃ n ∈ l, (l.foldl (lsS v) a).1 = szN (v.getD n.toNat 0)) ∨ (a.2 = true ∧ (l.foldl (lsS v) a).1 = a.1)))
  | [], a, _ => .inl ⟨rfl, rfl⟩
  | n :: l, a, h => by
    right
    have hn := h n (by simp)
    have hs : lsS v a n = if a.2 = false ∨ szN (v.getD n.toNat 0) < a.1 then (szN (v.getD n.toNat 0), true) else a := by
      unfold lsS
      rw [if_neg (by omega)]
    rw [List.foldl_cons]
    have ih := lst_is l (lsS v a n) (fun m hm => h m (by simp [hm]))
    by_cases hc : a.2 = false ∨ szN (v.getD n.toNat 0) < a.1
    · rw [if_pos hc] at hs
      rw [hs] at ih ⊢
      rcases ih with ⟨e1, e2⟩ | ⟨e1, ⟨m, hm, e2⟩ | ⟨e2, e3⟩⟩
      · rw [e2]
        exact ⟨rfl, .inl ⟨n, by simp, rfl⟩⟩
      · exact ⟨e1, .inl ⟨m, by simp [hm], e2⟩⟩
      · exact ⟨e1, .inl ⟨n, by simp, e3⟩⟩
    · rw [if_neg hc] at hs
      have ha : a.2 = true := by
        cases h2 : a.2
        · exact absurd (.inl h2) hc
        · rfl
      rw [hs] at ih ⊢
      rcases ih with ⟨e1, e2⟩ | ⟨e1, ⟨m, hm, e2⟩ | ⟨e2, e3⟩⟩
      · rw [e2]
        exact ⟨ha, .inr ⟨ha, rfl⟩⟩
      · exact ⟨e1, .inl ⟨m, by simp [hm], e2⟩⟩
      · exact ⟨e1, .inr ⟨e2, e3⟩⟩
/-- Of who is picked the least size is no less than any size of who is left; there is one just if some are picked. -/
theorem pik_least {v : List Int} {k : Int} (h : pikE v k = 0) (h0 : v ≠ []) : (lstR (pikV v k) v).2 = decide (0 < k) ∧
    ∀ n m : Nat, n < v.length → n ∉ pkF v k.toNat → v[n]? = some (v.getD n 0) ∧ ((lstR (pikV v k) v).2 = true → szN (v.getD n 0) ≤ (lstR (pikV v k) v).1) := by
  have hb : ∀ n ∈ pikV v k, 0 ≤ n ∧ n < (v.length : Int) := fun n hn => by
    obtain ⟨m, rfl, hm, _⟩ := pik_at h hn
    omega
  have hl := pikV_len h
  have hk := pikE_ok.1 h
  rcases lst_is (pikV v k) (0, false) hb with ⟨e1, e2⟩ | ⟨e1, ⟨m, hm, e2⟩ | ⟨e2, _⟩⟩
  · have hk0 : k = 0 := by rw [e1] at hl; simpa using hl.symm
    have e3 : lstR (pikV v k) v = (0, false) := e2
    rw [e3, hk0]
    exact ⟨by decide, fun n m hn _ => ⟨by rw [List.getElem?_eq_getElem hn, List.getD_eq_getElem?_getD, List.getElem?_eq_getElem hn, Option.getD_some], fun hf => by cases hf⟩⟩
  · have e3 : (lstR (pikV v k) v).2 = true := e1
    have hk0 : 0 < k := by
      have : 0 < (pikV v k).length := List.length_pos_of_mem hm
      omega
    refine ⟨by rw [e3, decide_eq_true hk0], fun n _ hn ho => ⟨by rw [List.getElem?_eq_getElem hn, List.getD_eq_getElem?_getD, List.getElem?_eq_getElem hn, Option.getD_some], fun _ => ?_⟩⟩
    obtain ⟨i, rfl, hi, hp⟩ := pik_at h hm
    have ha := ahB_iff.1 (pk_ahead hp hn ho)
    have e4 : (lstR (pikV v k) v).1 = szN (v.getD i 0) := e2
    rw [e4]
    omega
  · cases e2
/-- A number's opposite, as 64 bits have it. -/
def ngW (n : Int) : Int := wrap64 (-n)
def ngL (v : List Int) : List Int := v.map ngW
theorem ngW_i64 (n : Int) : I64 (ngW n) := by unfold ngW I64 wrap64; omega
theorem ngW_sz {n : Int} (h : I64 n) : szN (ngW n) = szN n := by unfold szN ngW wrap64; unfold I64 at h; omega
theorem ngL_i64 (v : List Int) : ∀ x ∈ ngL v, I64 x := fun x hx => by
  unfold ngL at hx
  obtain ⟨y, _, rfl⟩ := List.mem_map.1 hx
  exact ngW_i64 y
theorem getD_i64 {v : List Int} (uv : ∀ x ∈ v, I64 x) (i : Nat) : I64 (v.getD i 0) := by
  rw [List.getD_eq_getElem?_getD]
  cases h : v[i]? with
  | none => show I64 0; decide
  | some x => exact uv x (List.mem_of_getElem? h)
theorem ngL_ah {v : List Int} (uv : ∀ x ∈ v, I64 x) (i k : Nat) : ahB (ngL v) i k = ahB v i k := by
  unfold ahB ngL
  have h0 : ngW 0 = 0 := by unfold ngW wrap64; omega
  rw [getD_map h0, getD_map h0, ngW_sz (getD_i64 uv i), ngW_sz (getD_i64 uv k)]
theorem pik_alike {v u : List Int} (hl : u.length = v.length) (h : ∀ i k, ahB u i k = ahB v i k) (k : Int) : pikE u k = pikE v k ∧ pikV u k = pikV v k := by
  have e1 : pikE u k = pikE v k := by unfold pikE orkE; rw [hl]
  refine ⟨e1, ?_⟩
  unfold pikV pkI
  rw [e1, pk_alike hl h]
theorem pik_zero {v : List Int} (h : v.length ≤ 4096) : pikE v 0 = 0 ∧ pikV v 0 = [] := by
  have h1 : pikE v 0 = 0 := pikE_ok.2 ⟨h, by omega, by omega⟩
  refine ⟨h1, ?_⟩
  have := pikV_len h1
  exact List.length_eq_zero_iff.1 (by omega)
theorem pik_more {v : List Int} {k m : Int} (h1 : pikE v k = 0) (h2 : pikE v m = 0) (h : k ≤ m) {n : Int} (hn : n ∈ pikV v k) : hasB (pikV v m) n = true := by
  obtain ⟨i, rfl, _, hi⟩ := pik_at h1 hn
  refine decide_eq_true ((pik_in h2).2 ?_)
  have h3 := (pikE_ok.1 h1).2.1
  exact pk_more (by omega) hi
end Go.Proofs.Ytjkhdfncahhnoaa
