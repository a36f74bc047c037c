
/- YQuB: texts joined: QuB. -/
import Derived.Test.YtecgbelgoomneaaGreatYb
import Derived.Test.YtecgbelgoomneaaGreatYa
import Derived.Deep.Cut
/- What is pressed to levels: by the document. -/
namespace Go.Proofs.YtecgbelgoomneaaGreat
open Go.RowKit
set_option maxHeartbeats 1000000
set_option maxRecDepth 100000
set_option linter.unusedVariables false
theorem mostq_ok {v : List Int} (he : mostE v = 0) : v.length ≤ 4096 ∧ 0 ≤ mostV v ∧ mostV v ≤ 9223372036854775807 ∧ (∀ x ∈ v, (szN x : Int) ≤ mostV v) ∧ (mostV v = 0 ∨ ∃ x ∈ v, (szN x : Int) = mostV v) := by
  have hn : ¬ 4096 < v.length := fun h => by unfold mostE at he; rw [(un_long h 0 (numA v)).1] at he; cases he
  have hs : seqE (numA v) v.length = 0 := by unfold mostE at he; rw [(un_ok hn (numA v)).1] at he; exact he
  have h0 := seqE_zero.1 hs
  have hk : ∀ k, k < v.length → (numA v k).1 = absI (v.getD k 0) := fun k hk => ckV_in (ckE_zero.1 (h0 k hk))
  have em : unV 0 (numA v) v.length = (List.range v.length).map fun k => absI (v.getD k 0) := by
    rw [(un_ok hn (numA v)).2]
    unfold seqV
    rw [if_pos hs]
    exact map_range_ext hk
  have ea : ∀ x : Int, absI x = (szN x : Int) := fun x => by unfold absI szN; split <;> omega
  have im : I64 (mostV v) := mx_i64 (unV_i64 fun k _ => ckV_i64 _) 0 (by decide)
  have hmem := mx_mem (unV 0 (numA v) v.length)
  rw [em] at hmem
  have hmv : mostV v = mx ((List.range v.length).map fun k => absI (v.getD k 0)) := by unfold mostV; rw [em]
  rw [← hmv] at hmem
  refine ⟨by omega, mx_nonneg _, i64_le im, fun x hx => ?_, ?_⟩
  · obtain ⟨k, hk⟩ := List.mem_iff_getElem?.1 hx
    have hlt := (List.getElem?_eq_some_iff.1 hk).1
    unfold mostV
    rw [em]
    refine Int.le_trans ?_ (le_mx (List.mem_map.2 ⟨k, by simpa using hlt, rfl⟩))
    rw [ea, getD_of hk]
    exact Int.le_refl _
  · rcases hmem with h | h
    · exact .inl h
    · right
      obtain ⟨k, hk, e⟩ := List.mem_map.1 h
      have hlt : k < v.length := by simpa using hk
      refine ⟨v[k], List.getElem_mem hlt, ?_⟩
      rw [← e, ea, getD_of (List.getElem?_eq_getElem hlt)]
theorem most_i64 (v : List Int) : I64 (mostV v) := mx_i64 (unV_i64 fun k _ => ckV_i64 _) 0 (by decide)
theorem lvlE_most {v : List Int} {wide x : Int} (he : mostE v = 0) (hw : stsE wide = 0) (hx : x ∈ v) : lvlE x (mostV v) wide = 0 := by
  obtain ⟨_, h1, _, h2, _⟩ := mostq_ok he
  exact lvlE_ok.2 ⟨hw, h1, h2 x hx⟩
/-- A vector that a call tells, its levels and signs the call's own. -/
def OwnSl (base : Nat) (s : SentV) (er : Int) (w : World) (e : Ending) (w' : World) : Prop :=
  ∃ A c A' c', e = .returned (.tuple #[encT s ⟨none, 0, none, 0, A, c, A', c'⟩, .int .i64 er]) ∧ s.L = [] ∧ s.V = [] ∧
    w'.ownsRow base 25 1 (.slice A s.lev.length c) s.lev.length (s.lev.map (Value.int .u64)) ∧ w'.ownsRow base 4 1 (.slice A' s.neg.length c') s.neg.length (s.neg.map Value.bool) ∧ apt A A' ∧ Below base w w'
theorem plQ_le {x scale wide : Int} {seed : Nat} {n : List Int} {i : Nat} (h : lvlE x scale wide = 0) : lvlL x scale wide ≤ 255 := by
  obtain ⟨h1, h2, h3⟩ := lvlE_ok.1 h
  unfold lvlL
  rw [if_pos h]
  exact Nat.le_trans (lvQ_le (by omega) _) (topQ_bd h1).2
set_option maxHeartbeats 16000000 in
theorem ref_Press10 {A B : Option Addr} {c d : Nat} (v : List Int) (uv : ∀ x ∈ v, I64 x) (hl : v.length ≤ 9223372036854775807) (wide : Int) (hw : I64 wide) (s : Nat) (hs : s < 2 ^ 64) (n : List Int) (un : ∀ x ∈ n, I64 x) (hn : n.length ≤ 1000) (w : World) (ra : Rd (Value.int .i64) w w.heap.size A v) (rb : Rd (Value.int .i64) w w.heap.size B n) :
    Calls Tryz.prog 36 #[.slice A v.length c, .int .i64 wide, .int .u64 (s : Int), .slice B n.length d] w (OwnSl w.heap.size (prqS v wide s n) (prqE v wide) w) := by
  have C1 := hid (fun W => ref_Steps wide hw W)
  have C2 := hid (fun W (h : Below w.heap.size w W) => rMost_any (A := A) (c := c) v hl uv W (ra.on h))
  by_cases h1 : stsE wide = 0
  · rw [h1] at C1
    by_cases h0 : v = []
    · have he : prqE v wide = 1 := if_pos (.inr h0)
      have hS : prqS v wide s n = zeroS := if_neg (by rw [he]; decide)
      rw [he, hS]
      subst h0
      clear he hS ra rb uv un hl C2
      go_enter Tryz.func36, Tryz.ntmps36
      go_wp2_with fail
      refine (C1.out _).mono ?_
      rintro _ _ ⟨rfl, rfl⟩
      go_wp2_with fail
      refine bodyPost_ret (v := .tuple #[encT zeroS zeroP, .int .i64 1]) (by simp [results, Tryz.results36, go_sem, zeroS, zeroP]) rfl ⟨none, 0, none, 0, rfl, rfl, rfl, own_nil _ _ _, own_nil _ _ _, apt_none _, by go_grown⟩
    · have h0' : ¬ v.length = 0 := fun h => h0 (List.length_eq_zero_iff.1 h)
      have t1 : ((v.length : Int) == 0) = false := beq_eq_false_iff_ne.2 (by omega)
      have t2 : (v.length == 0) = false := beq_eq_false_iff_ne.2 h0'
      have hp : prqE v wide = mostE v := if_neg (by rw [h1]; simp [h0])
      by_cases hm : mostE v = 0
      · have hS : prqS v wide s n = ⟨2, v.length, [], [], mostV v, wide, levQ v wide s n v.length, negQ v v.length⟩ := if_pos (hp.trans hm)
        rw [hp, hS, hm]
        rw [hm] at C2
        obtain ⟨m1, m2, m3, m4, _⟩ := mostq_ok hm
        have CL := hid (fun x (hx : x ∈ v) W => ref_Level x (mostV v) wide (uv x hx) (most_i64 v) hw W)
        have HLE := hid (fun x (hx : x ∈ v) => lvlE_most hm h1 hx)
        have HPL := hid (fun x (hx : x ∈ v) => plQ_le (seed := s) (n := n) (i := 0) (lvlE_most hm h1 hx))
        have HPQ := hid (fun (i : Nat) (x : Int) => show plQ (mostV v) wide s n i x = if 0 < lvlR x (mostV v) wide ∧ belV (mostV v).toNat s (n ++ [(i : Int)]) < lvlR x (mostV v) wide then lvlL x (mostV v) wide + 1 else lvlL x (mostV v) wide from rfl)
        have HSL := hid (fun q => levQ_snoc v wide s n q)
        have HSN := hid (fun q => negQ_snoc v q)
        have HLL := hid (fun q => levQ_len v wide s n q)
        have HNL := hid (fun q => negQ_len v q)
        have H0L : Hid (levQ v wide s n 0 = []) := rfl
        have H0N : Hid (negQ v 0 = []) := rfl
        obtain ⟨M, hM⟩ := Int.eq_ofNat_of_zero_le m2
        have HRL := hid (fun (x : Int) (hx : x ∈ v) => show lvlR x (mostV v) wide ≤ M by
          have h := lvlE_most hm h1 hx
          obtain ⟨a1, a2, a3⟩ := lvlE_ok.1 h
          unfold lvlR
          rw [if_pos h, hM, Int.toNat_natCast]
          rcases Nat.eq_zero_or_pos M with e | e
          · subst e
            have : szN x = 0 := by omega
            rw [this, (lvQ_none _).2]
            exact Nat.le_refl _
          · exact Nat.le_of_lt (rsQ_lt e))
        rw [hM] at C2 CL HLE HPL HPQ m3 HRL ⊢
        rw [Int.toNat_natCast] at HPQ
        have CB := hid (fun (i : Nat) (hi : i ≤ 4096) (A : Option Addr) (c : Nat) W (L : Nat) (h : Rd (Value.int .i64) W L A (n ++ [(i : Int)])) => ref_Below (A := A) (c := c) M s (by omega) hs (n ++ [(i : Int)]) (by simp; omega) (by
          intro x hx
          rcases List.mem_append.1 hx with hx | hx
          · exact un x hx
          · simp at hx; subst hx; unfold I64; omega) W h)
        have RA := hid ra
        have RB := hid rb
        have HMM := hid hM
        clear hS hp hm m2 m4 hM h0 h0' ra rb uv un
        go_enter Tryz.func36, Tryz.ntmps36
        go_wp2_with fail
        have B0 := BoxL.new w [.int .i64 0, .int .i64 0, .slice none 0 0, .slice none 0 0, .int .i64 0, .int .i64 0, .slice none 0 0, .slice none 0 0] 32
        refine (C1.out _).mono ?_
        rintro _ _ ⟨rfl, rfl⟩
        go_wp2_with fail
        refine (C2.out _ (by go_grown)).mono ?_
        rintro _ w1 ⟨rfl, hb⟩
        have HB1 := hid (B0.below hb (by simp))
        have k1 : Below w.heap.size w w1 := Below.trans (by go_grown) (hb.mono (by simp))
        have hg1 : w.heap.size < w1.heap.size := by have := hb.size; simp at this; omega
        clear B0 hb C1 C2
        go_wp2_with fail
        clear t1 t2
        have B2 := BoxL.new w1 [.int .i64 2, .int .i64 (v.length : Int), .slice none 0 0, .slice none 0 0, .int .i64 (M : Int), .int .i64 wide, .slice none 0 0, .slice none 0 0] 32
        have hz2 : Below w1.heap.size w1 (w1.alloc (.cells #[.int .i64 2, .int .i64 (v.length : Int), .slice none 0 0, .slice none 0 0, .int .i64 (M : Int), .int .i64 wide, .slice none 0 0, .slice none 0 0] 32)) := (Below.refl _ _).alloc (Nat.le_refl _) _
        have hsz2 : (w1.alloc (.cells #[.int .i64 2, .int .i64 (v.length : Int), .slice none 0 0, .slice none 0 0, .int .i64 (M : Int), .int .i64 wide, .slice none 0 0, .slice none 0 0] 32)).heap.size = w1.heap.size + 1 := by simp
        obtain ⟨w2, hw2⟩ : ∃ w2, w1.alloc (.cells #[.int .i64 2, .int .i64 (v.length : Int), .slice none 0 0, .slice none 0 0, .int .i64 (M : Int), .int .i64 wide, .slice none 0 0, .slice none 0 0] 32) = w2 := ⟨_, rfl⟩
        have B2' : BoxL w2 w1.heap.size [.int .i64 2, .int .i64 (v.length : Int), .slice none 0 0, .slice none 0 0, .int .i64 (M : Int), .int .i64 wide, .slice none 0 0, .slice none 0 0] := by rw [← hw2]; exact B2
        rw [hw2] at hz2 hsz2 ⊢
        have HB2 := hid B2'
        have HB1' := hid (HB1.out.below hz2 hg1)
        clear hw2 B2 B2' HB1
        go_loopw [15, 16, 17, 18, 19, 20, 21, 51] (fun x15 x16 x17 x18 x19 x20 x21 i wr => ∃ (q : Nat) (S : List Int) (A2 : Option Addr) (c2 : Nat) (N : List Bool) (A3 : Option Addr) (c3 : Nat), q ≤ v.length ∧ i = .int .i64 q ∧ S = levQ v wide s n q ∧ N = negQ v q ∧ BoxL wr w.heap.size [.int .i64 0, .int .i64 0, .slice none 0 0, .slice none 0 0, .int .i64 0, .int .i64 0, .slice none 0 0, .slice none 0 0] ∧ BoxL wr w1.heap.size [.int .i64 2, .int .i64 (v.length : Int), .slice none 0 0, .slice none 0 0, .int .i64 (M : Int), .int .i64 wide, .slice A2 S.length c2, .slice A3 N.length c3] ∧ wr.ownsRow (w1.heap.size + 1) 25 1 (.slice A2 S.length c2) S.length (S.map (Value.int .u64)) ∧ wr.ownsRow (w1.heap.size + 1) 4 1 (.slice A3 N.length c3) N.length (N.map Value.bool) ∧ apt A2 A3 ∧ Below w1.heap.size w1 wr ∧ w1.heap.size + 1 ≤ wr.heap.size) (fun _ _ _ _ _ _ _ i _ => v.length - (intOf i).toNat)
        case atStart => exact ⟨0, [], none, 0, [], none, 0, by omega, rfl, H0L.out.symm, H0N.out.symm, HB1'.out, HB2.out, own_nil _ _ _, own_nil _ _ _, apt_none _, hz2, by omega⟩
        case round =>
          clear HB1' HB2 hz2 hsz2
          obtain ⟨q, S, A2, c2, N, A3, c3, hq, rfl, hS, hN, hB1, hB2, hO, hP, hap, hbel, hsz⟩ := hrel
          have HSq := hid hS
          have HNq := hid hN
          have HO := hid hO
          have HP := hid hP
          have HAP := hid hap
          have HX1 := hid hB1
          have HX2 := hid hB2
          have hSl : S.length ≤ 4096 := by rw [hS, HLL.out]; omega
          have hNl : N.length ≤ 4096 := by rw [hN, HNL.out]; omega
          clear hS hN hO hP hap hB1 hB2
          by_cases hlt : q < v.length
          · have kw := k1.trans (hbel.mono k1.size)
            obtain ⟨b1, o1, x, rfl, l1, ex, d1⟩ := (RA.out.below kw).at_ hlt
            have hxv := List.mem_of_getElem? ex
            have C3 := hid (CL.out x hxv wr)
            rw [HLE.out x hxv] at C3
            have hgx := getD_of ex
            have HS1 : Hid (levQ v wide s n (q + 1) = levQ v wide s n q ++ [(plQ (M : Int) wide s n q x : Int)]) := hid (by have h := HSL.out q; rw [hgx, HMM.out] at h; exact h)
            have HN1 : Hid (negQ v (q + 1) = negQ v q ++ [decide (x < 0)]) := hid (by have h := HSN.out q; rw [hgx] at h; exact h)
            have hpl := HPL.out x hxv
            have hpq := HPQ.out q x
            have hrl := HRL.out x hxv
            obtain ⟨l, hl⟩ : ∃ l, lvlL x (M : Int) wide = l := ⟨_, rfl⟩
            obtain ⟨r, hr⟩ : ∃ r, lvlR x (M : Int) wide = r := ⟨_, rfl⟩
            rw [hl, hr] at C3 hpq
            rw [hl] at hpl
            rw [hr] at hrl
            obtain ⟨P, hP⟩ : ∃ P, plQ (M : Int) wide s n q x = P := ⟨_, rfl⟩
            rw [hP] at hpq HS1
            have HPP := hid hpq
            clear hpq hP hl hr hgx hxv ex
            rcases Nat.eq_zero_or_pos r with h0 | h0
            · subst h0
              have hPl : P = l := by rw [HPP.out]; rw [if_neg (by omega)]
              clear HPP CB
              go_wp2_with fail
              refine C3.out.mono ?_
              rintro _ _ ⟨rfl, rfl⟩
              have HPP := hPl
              clear hPl
              have g1 : Below wr.heap.size wr (wr.alloc (.cells #[.int .u64 (l : Int)] 25)) := (Below.refl _ _).alloc (Nat.le_refl _) _
              have r1 : Rd (Value.int .u64) (wr.alloc (.cells #[.int .u64 (l : Int)] 25)) _ (some ⟨wr.heap.size, 0, none⟩) [(l : Int)] := rd_one (one_cell wr (.int .u64 (l : Int)) 25).1
              have o1' := own_on HO.out g1
              have p1' := own_on HP.out g1
              have hrw := row_in HP.out
              have f6 := (HX2.out 6 _ rfl).1
              have hlw : w1.heap.size < wr.heap.size := by omega
              go_wp2_with (at_builtin; refine wpList_app5 (Value.int .u64) (fun _ => rfl) _ rfl _ _ 29 rfl (w1.heap.size + 1) 25 (.int .u64 0) 8 Tryz.underlying29 info_u64 rfl S A2 c2 rfl o1' [(l : Int)] _ 1 _ rfl r1 (by simp [maxLen]; omega) (by simp; omega) (by simp; omega) ?_)
              rintro S5 A5 c5 w5 hS5 ho5 hb5 hg5 h55
              have HS5 := hid hS5
              have kk : Below (w1.heap.size + 1) wr w5 := (((Below.refl (w1.heap.size + 1) wr).alloc hsz _)).trans hb5
              have Y1 := hid (HX1.out.below kk (by omega))
              have Y2 := hid (HX2.out.below kk (by omega))
              have p5 := own_apt p1' hg5 HAP.out
              have ap5 : apt A5 A3 := HAP.out.app h55 (fun g hg => by have := (hrw g hg).2; simp; omega)
              have k5 := hbel.trans (kk.mono (by omega))
              have z5 : w1.heap.size + 1 ≤ w5.heap.size := Nat.le_trans hsz kk.size
              have HO5 := hid ho5
              have HP5 := hid p5
              have HA5 := hid ap5
              have e6 := (Y2.out 6 _ rfl).1
              have n6 := (Y2.out 6 _ rfl).2
              have f75 := (Y2.out 7 _ rfl).1
              have hl5 : w1.heap.size < w5.heap.size := by omega
              have hS5l : S5.length ≤ 4097 := by rw [hS5]; simp; omega
              clear hS5 ho5 hb5 hg5 h55 p1' o1' r1 g1 p5 ap5 kk hrw f6
              go_upto_region 17 with fail
              have Z1 := hid (Y1.out.other (p := ⟨w1.heap.size, 6, none⟩) (by simp; omega) (.slice A5 S5.length c5))
              have Z2 := hid (Y2.out.one (k := 6) rfl (.slice A5 S5.length c5))
              have HO6 := hid (own_set HO5.out (p := ⟨w1.heap.size, 6, none⟩) (by simp) (.slice A5 S5.length c5))
              have HP6 := hid (own_set HP5.out (p := ⟨w1.heap.size, 6, none⟩) (by simp) (.slice A5 S5.length c5))
              have k6 := k5.setCell (p := ⟨w1.heap.size, 6, none⟩) (by simp) (.slice A5 S5.length c5)
              have z6 : w1.heap.size + 1 ≤ (w5.setCell ⟨w1.heap.size, 6, none⟩ (.slice A5 S5.length c5)).heap.size := by simpa using z5
              obtain ⟨w6, h6⟩ : ∃ w6, w5.setCell ⟨w1.heap.size, 6, none⟩ (.slice A5 S5.length c5) = w6 := ⟨_, rfl⟩
              rw [h6] at Z1 Z2 HO6 HP6 k6 z6 ⊢
              clear h6 Y1 Y2 HO5 HP5 k5 z5 e6 n6 hl5 f75
              have g2 : Below w6.heap.size w6 (w6.alloc (.cells #[.bool (decide (x < 0))] 4)) := (Below.refl _ _).alloc (Nat.le_refl _) _
              have r2 : Rd Value.bool (w6.alloc (.cells #[.bool (decide (x < 0))] 4)) _ (some ⟨w6.heap.size, 0, none⟩) [decide (x < 0)] := rd_one (one_cell w6 (.bool (decide (x < 0))) 4).1
              have o2' := own_on HO6.out g2
              have p2' := own_on HP6.out g2
              have hrw := row_in HO6.out
              have f7 := (Z2.out 7 _ rfl).1
              have hlw6 : w1.heap.size < w6.heap.size := by omega
              go_wp2_with (at_builtin; refine wpList_app5 Value.bool (fun _ => rfl) _ rfl _ _ 30 rfl (w1.heap.size + 1) 4 (.bool false) 1 Tryz.underlying30 info_bool rfl N A3 c3 rfl p2' [decide (x < 0)] _ 1 _ rfl r2 (by simp [maxLen]; omega) (by simp; omega) (by simp; omega) ?_)
              rintro N7 A7 c7 w7 hN7 hp7 hb7 hg7 h57
              have HN7 := hid hN7
              have kk : Below (w1.heap.size + 1) w6 w7 := (((Below.refl (w1.heap.size + 1) w6).alloc z6 _)).trans hb7
              have Y1 := hid (Z1.out.below kk (by omega))
              have Y2 := hid (Z2.out.below kk (by omega))
              have o7 := own_apt o2' hg7 HA5.out.symm
              have ap7 : apt A7 A5 := HA5.out.symm.app h57 (fun g hg => by have := (hrw g hg).2; simp; omega)
              have k7 := k6.trans (kk.mono (by omega))
              have z7 : w1.heap.size + 1 ≤ w7.heap.size := Nat.le_trans z6 kk.size
              have HO7 := hid o7
              have HP7 := hid hp7
              have HA7 := hid ap7.symm
              have e7 := (Y2.out 7 _ rfl).1
              have n7 := (Y2.out 7 _ rfl).2
              clear hN7 hp7 hb7 hg7 h57 p2' o2' r2 g2 o7 ap7 kk hrw f7
              go_wp2_with fail
              go_roundw
              case rel => exact ⟨q + 1, S5, A5, c5, N7, A7, c7, by omega, by go_num, by rw [HS5.out, HSq.out, HS1.out, HPP], by rw [HN7.out, HNq.out, HN1.out], Y1.out.other (by simp; omega) _, Y2.out.one (k := 7) rfl _, own_set HO7.out (by simp) _, own_set HP7.out (by simp) _, HA7.out, k7.setCell (by simp) _, by simpa using z7⟩
              case measure => simp [intOf]; omega
            · have h0' : (r : Int) > 0 := by omega
              have CBq := hid (fun A c W L h => CB.out q (by omega) A c W L h)
              rw [show belE M = 0 from if_neg (by omega)] at CBq
              obtain ⟨b, hb⟩ : ∃ b, belV M s (n ++ [(q : Int)]) = b := ⟨_, rfl⟩
              rw [hb] at CBq HPP
              clear CB hb
              have RBr := hid (RB.out.below (k1.trans (hbel.mono k1.size)))
              have hzw : w.heap.size ≤ wr.heap.size := by omega
              go_wp2_with fail
              refine C3.out.mono ?_
              rintro _ _ ⟨rfl, rfl⟩
              go_wp2_with (at_builtin; refine wpList_app (Value.int .i64) (fun _ => rfl) _ rfl _ _ 26 rfl wr.heap.size 3 (.int .i64 0) 8 Tryz.underlying26 info_int rfl [] none 0 rfl (own_nil _ _ _) n B d w.heap.size rfl RBr.out (by simp [maxLen]; omega) (by simp; omega) (Nat.le_refl _) ?_)
              rintro Q A4 c4 w3 hQ ho3 hb3 _
              obtain rfl : n = Q := hQ.symm
              have hk3 : Below w3.heap.size w3 (w3.alloc (.cells #[.int .i64 (q : Int)] 3)) := (Below.refl _ _).alloc (Nat.le_refl _) _
              have ho3a := own_on ho3 hk3
              have rm := rd_new (enc := Value.int .i64) w3 3 [(q : Int)]
              have hz3 : wr.heap.size ≤ (w3.alloc (.cells #[.int .i64 (q : Int)] 3)).heap.size := Nat.le_trans hb3.size hk3.size
              have hb3a := hb3.trans (hk3.mono hb3.size)
              go_wp2_with (at_builtin; refine wpList_app (Value.int .i64) (fun _ => rfl) _ rfl _ _ 26 rfl wr.heap.size 3 (.int .i64 0) 8 Tryz.underlying26 info_int rfl n A4 c4 rfl ho3a [(q : Int)] (some ⟨w3.heap.size, 0, none⟩) 1 _ rfl rm (by simp [maxLen]; omega) (by simp; omega) hz3 ?_)
              rintro Q2 A9 c9 w4 hQ2 ho4 hb4 _
              have hb4w := hb3a.trans hb4
              have CB4a := CBq.out A9 c9 w4 _ (by rw [← hQ2]; exact own_rd ho4)
              rw [← hQ2] at CB4a
              have CB4 := hid CB4a
              clear CB4a hQ2
              have V1 := hid (HX1.out.below hb4w (by omega))
              have V2 := hid (HX2.out.below hb4w (by omega))
              have VO := hid (own_on HO.out hb4w)
              have VP := hid (own_on HP.out hb4w)
              have hk4 := hbel.trans (hb4w.mono (by omega))
              have hs4 : w1.heap.size + 1 ≤ w4.heap.size := Nat.le_trans hsz hb4w.size
              clear ho3 ho3a ho4 hb3 hb3a hb4 hb4w rm hk3 hz3 HX1 HX2 HO HP CBq RBr
              by_cases hbr : b < r
              · have hPl : P = l + 1 := by rw [HPP.out]; rw [if_pos (by omega)]
                have hbr' : (b : Int) < (r : Int) := by omega
                obtain ⟨l1, hl1⟩ : ∃ l1 : Nat, l + 1 = l1 := ⟨_, rfl⟩
                have hl2 : (l : Int) + 1 = (l1 : Int) := by omega
                rw [hl1] at hPl
                clear HPP
                have HPP := hPl
                clear hPl hbr
                go_wp2_with fail
                refine CB4.out.mono ?_
                rintro _ _ ⟨rfl, rfl⟩
                have g1 : Below w4.heap.size w4 (w4.alloc (.cells #[.int .u64 (l1 : Int)] 25)) := (Below.refl _ _).alloc (Nat.le_refl _) _
                have r1 : Rd (Value.int .u64) (w4.alloc (.cells #[.int .u64 (l1 : Int)] 25)) _ (some ⟨w4.heap.size, 0, none⟩) [(l1 : Int)] := rd_one (one_cell w4 (.int .u64 (l1 : Int)) 25).1
                have o1' := own_on VO.out g1
                have p1' := own_on VP.out g1
                have hrw := row_in VP.out
                have f6 := (V2.out 6 _ rfl).1
                have hlw : w1.heap.size < w4.heap.size := by omega
                go_wp2_with (at_builtin; refine wpList_app5 (Value.int .u64) (fun _ => rfl) _ rfl _ _ 29 rfl (w1.heap.size + 1) 25 (.int .u64 0) 8 Tryz.underlying29 info_u64 rfl S A2 c2 rfl o1' [(l1 : Int)] _ 1 _ rfl r1 (by simp [maxLen]; omega) (by simp; omega) (by simp; omega) ?_)
                rintro S5 A5 c5 w5 hS5 ho5 hb5 hg5 h55
                have HS5 := hid hS5
                have kk : Below (w1.heap.size + 1) w4 w5 := (((Below.refl (w1.heap.size + 1) w4).alloc hs4 _)).trans hb5
                have Y1 := hid (V1.out.below kk (by omega))
                have Y2 := hid (V2.out.below kk (by omega))
                have p5 := own_apt p1' hg5 HAP.out
                have ap5 : apt A5 A3 := HAP.out.app h55 (fun g hg => by have := (hrw g hg).2; simp; omega)
                have k5 := hk4.trans (kk.mono (by omega))
                have z5 : w1.heap.size + 1 ≤ w5.heap.size := Nat.le_trans hs4 kk.size
                have HO5 := hid ho5
                have HP5 := hid p5
                have HA5 := hid ap5
                have e6 := (Y2.out 6 _ rfl).1
                have n6 := (Y2.out 6 _ rfl).2
                have f75 := (Y2.out 7 _ rfl).1
                have hl5 : w1.heap.size < w5.heap.size := by omega
                have hS5l : S5.length ≤ 4097 := by rw [hS5]; simp; omega
                clear hS5 ho5 hb5 hg5 h55 p1' o1' r1 g1 p5 ap5 kk hrw f6
                go_upto_region 17 with fail
                have Z1 := hid (Y1.out.other (p := ⟨w1.heap.size, 6, none⟩) (by simp; omega) (.slice A5 S5.length c5))
                have Z2 := hid (Y2.out.one (k := 6) rfl (.slice A5 S5.length c5))
                have HO6 := hid (own_set HO5.out (p := ⟨w1.heap.size, 6, none⟩) (by simp) (.slice A5 S5.length c5))
                have HP6 := hid (own_set HP5.out (p := ⟨w1.heap.size, 6, none⟩) (by simp) (.slice A5 S5.length c5))
                have k6 := k5.setCell (p := ⟨w1.heap.size, 6, none⟩) (by simp) (.slice A5 S5.length c5)
                have z6 : w1.heap.size + 1 ≤ (w5.setCell ⟨w1.heap.size, 6, none⟩ (.slice A5 S5.length c5)).heap.size := by simpa using z5
                obtain ⟨w6, h6⟩ : ∃ w6, w5.setCell ⟨w1.heap.size, 6, none⟩ (.slice A5 S5.length c5) = w6 := ⟨_, rfl⟩
                rw [h6] at Z1 Z2 HO6 HP6 k6 z6 ⊢
                clear h6 Y1 Y2 HO5 HP5 k5 z5 e6 n6 hl5 f75
                have g2 : Below w6.heap.size w6 (w6.alloc (.cells #[.bool (decide (x < 0))] 4)) := (Below.refl _ _).alloc (Nat.le_refl _) _
                have r2 : Rd Value.bool (w6.alloc (.cells #[.bool (decide (x < 0))] 4)) _ (some ⟨w6.heap.size, 0, none⟩) [decide (x < 0)] := rd_one (one_cell w6 (.bool (decide (x < 0))) 4).1
                have o2' := own_on HO6.out g2
                have p2' := own_on HP6.out g2
                have hrw := row_in HO6.out
                have f7 := (Z2.out 7 _ rfl).1
                have hlw6 : w1.heap.size < w6.heap.size := by omega
                go_wp2_with (at_builtin; refine wpList_app5 Value.bool (fun _ => rfl) _ rfl _ _ 30 rfl (w1.heap.size + 1) 4 (.bool false) 1 Tryz.underlying30 info_bool rfl N A3 c3 rfl p2' [decide (x < 0)] _ 1 _ rfl r2 (by simp [maxLen]; omega) (by simp; omega) (by simp; omega) ?_)
                rintro N7 A7 c7 w7 hN7 hp7 hb7 hg7 h57
                have HN7 := hid hN7
                have kk : Below (w1.heap.size + 1) w6 w7 := (((Below.refl (w1.heap.size + 1) w6).alloc z6 _)).trans hb7
                have Y1 := hid (Z1.out.below kk (by omega))
                have Y2 := hid (Z2.out.below kk (by omega))
                have o7 := own_apt o2' hg7 HA5.out.symm
                have ap7 : apt A7 A5 := HA5.out.symm.app h57 (fun g hg => by have := (hrw g hg).2; simp; omega)
                have k7 := k6.trans (kk.mono (by omega))
                have z7 : w1.heap.size + 1 ≤ w7.heap.size := Nat.le_trans z6 kk.size
                have HO7 := hid o7
                have HP7 := hid hp7
                have HA7 := hid ap7.symm
                have e7 := (Y2.out 7 _ rfl).1
                have n7 := (Y2.out 7 _ rfl).2
                clear hN7 hp7 hb7 hg7 h57 p2' o2' r2 g2 o7 ap7 kk hrw f7
                go_wp2_with fail
                go_roundw
                case rel => exact ⟨q + 1, S5, A5, c5, N7, A7, c7, by omega, by go_num, by rw [HS5.out, HSq.out, HS1.out, HPP], by rw [HN7.out, HNq.out, HN1.out], Y1.out.other (by simp; omega) _, Y2.out.one (k := 7) rfl _, own_set HO7.out (by simp) _, own_set HP7.out (by simp) _, HA7.out, k7.setCell (by simp) _, by simpa using z7⟩
                case measure => simp [intOf]; omega
              · have hPl : P = l := by rw [HPP.out]; rw [if_neg (by omega)]
                have hbr' : ¬ (b : Int) < (r : Int) := by omega
                clear HPP
                have HPP := hPl
                clear hPl hbr
                go_wp2_with fail
                refine CB4.out.mono ?_
                rintro _ _ ⟨rfl, rfl⟩
                have g1 : Below w4.heap.size w4 (w4.alloc (.cells #[.int .u64 (l : Int)] 25)) := (Below.refl _ _).alloc (Nat.le_refl _) _
                have r1 : Rd (Value.int .u64) (w4.alloc (.cells #[.int .u64 (l : Int)] 25)) _ (some ⟨w4.heap.size, 0, none⟩) [(l : Int)] := rd_one (one_cell w4 (.int .u64 (l : Int)) 25).1
                have o1' := own_on VO.out g1
                have p1' := own_on VP.out g1
                have hrw := row_in VP.out
                have f6 := (V2.out 6 _ rfl).1
                have hlw : w1.heap.size < w4.heap.size := by omega
                go_wp2_with (at_builtin; refine wpList_app5 (Value.int .u64) (fun _ => rfl) _ rfl _ _ 29 rfl (w1.heap.size + 1) 25 (.int .u64 0) 8 Tryz.underlying29 info_u64 rfl S A2 c2 rfl o1' [(l : Int)] _ 1 _ rfl r1 (by simp [maxLen]; omega) (by simp; omega) (by simp; omega) ?_)
                rintro S5 A5 c5 w5 hS5 ho5 hb5 hg5 h55
                have HS5 := hid hS5
                have kk : Below (w1.heap.size + 1) w4 w5 := (((Below.refl (w1.heap.size + 1) w4).alloc hs4 _)).trans hb5
                have Y1 := hid (V1.out.below kk (by omega))
                have Y2 := hid (V2.out.below kk (by omega))
                have p5 := own_apt p1' hg5 HAP.out
                have ap5 : apt A5 A3 := HAP.out.app h55 (fun g hg => by have := (hrw g hg).2; simp; omega)
                have k5 := hk4.trans (kk.mono (by omega))
                have z5 : w1.heap.size + 1 ≤ w5.heap.size := Nat.le_trans hs4 kk.size
                have HO5 := hid ho5
                have HP5 := hid p5
                have HA5 := hid ap5
                have e6 := (Y2.out 6 _ rfl).1
                have n6 := (Y2.out 6 _ rfl).2
                have f75 := (Y2.out 7 _ rfl).1
                have hl5 : w1.heap.size < w5.heap.size := by omega
                have hS5l : S5.length ≤ 4097 := by rw [hS5]; simp; omega
                clear hS5 ho5 hb5 hg5 h55 p1' o1' r1 g1 p5 ap5 kk hrw f6
                go_upto_region 17 with fail
                have Z1 := hid (Y1.out.other (p := ⟨w1.heap.size, 6, none⟩) (by simp; omega) (.slice A5 S5.length c5))
                have Z2 := hid (Y2.out.one (k := 6) rfl (.slice A5 S5.length c5))
                have HO6 := hid (own_set HO5.out (p := ⟨w1.heap.size, 6, none⟩) (by simp) (.slice A5 S5.length c5))
                have HP6 := hid (own_set HP5.out (p := ⟨w1.heap.size, 6, none⟩) (by simp) (.slice A5 S5.length c5))
                have k6 := k5.setCell (p := ⟨w1.heap.size, 6, none⟩) (by simp) (.slice A5 S5.length c5)
                have z6 : w1.heap.size + 1 ≤ (w5.setCell ⟨w1.heap.size, 6, none⟩ (.slice A5 S5.length c5)).heap.size := by simpa using z5
                obtain ⟨w6, h6⟩ : ∃ w6, w5.setCell ⟨w1.heap.size, 6, none⟩ (.slice A5 S5.length c5) = w6 := ⟨_, rfl⟩
                rw [h6] at Z1 Z2 HO6 HP6 k6 z6 ⊢
                clear h6 Y1 Y2 HO5 HP5 k5 z5 e6 n6 hl5 f75
                have g2 : Below w6.heap.size w6 (w6.alloc (.cells #[.bool (decide (x < 0))] 4)) := (Below.refl _ _).alloc (Nat.le_refl _) _
                have r2 : Rd Value.bool (w6.alloc (.cells #[.bool (decide (x < 0))] 4)) _ (some ⟨w6.heap.size, 0, none⟩) [decide (x < 0)] := rd_one (one_cell w6 (.bool (decide (x < 0))) 4).1
                have o2' := own_on HO6.out g2
                have p2' := own_on HP6.out g2
                have hrw := row_in HO6.out
                have f7 := (Z2.out 7 _ rfl).1
                have hlw6 : w1.heap.size < w6.heap.size := by omega
                go_wp2_with (at_builtin; refine wpList_app5 Value.bool (fun _ => rfl) _ rfl _ _ 30 rfl (w1.heap.size + 1) 4 (.bool false) 1 Tryz.underlying30 info_bool rfl N A3 c3 rfl p2' [decide (x < 0)] _ 1 _ rfl r2 (by simp [maxLen]; omega) (by simp; omega) (by simp; omega) ?_)
                rintro N7 A7 c7 w7 hN7 hp7 hb7 hg7 h57
                have HN7 := hid hN7
                have kk : Below (w1.heap.size + 1) w6 w7 := (((Below.refl (w1.heap.size + 1) w6).alloc z6 _)).trans hb7
                have Y1 := hid (Z1.out.below kk (by omega))
                have Y2 := hid (Z2.out.below kk (by omega))
                have o7 := own_apt o2' hg7 HA5.out.symm
                have ap7 : apt A7 A5 := HA5.out.symm.app h57 (fun g hg => by have := (hrw g hg).2; simp; omega)
                have k7 := k6.trans (kk.mono (by omega))
                have z7 : w1.heap.size + 1 ≤ w7.heap.size := Nat.le_trans z6 kk.size
                have HO7 := hid o7
                have HP7 := hid hp7
                have HA7 := hid ap7.symm
                have e7 := (Y2.out 7 _ rfl).1
                have n7 := (Y2.out 7 _ rfl).2
                clear hN7 hp7 hb7 hg7 h57 p2' o2' r2 g2 o7 ap7 kk hrw f7
                go_wp2_with fail
                go_roundw
                case rel => exact ⟨q + 1, S5, A5, c5, N7, A7, c7, by omega, by go_num, by rw [HS5.out, HSq.out, HS1.out, HPP], by rw [HN7.out, HNq.out, HN1.out], Y1.out.other (by simp; omega) _, Y2.out.one (k := 7) rfl _, own_set HO7.out (by simp) _, own_set HP7.out (by simp) _, HA7.out, k7.setCell (by simp) _, by simpa using z7⟩
                case measure => simp [intOf]; omega
          · obtain rfl : q = v.length := by omega
            have HSe : Hid (S = levQ v wide s n v.length) := HSq
            have HNe : Hid (N = negQ v v.length) := HNq
            obtain ⟨⟨g0, g1, g2, g3, g4, g5, g6, g7⟩, n0, n1, n2, n3, n4, n5, n6, n7⟩ := HX1.out.eight
            obtain ⟨⟨h0, h1, h2, h3, h4, h5, h6, h7⟩, _⟩ := HX2.out.eight
            have kw := k1.trans (hbel.mono k1.size)
            have hz : w.heap.size < w1.heap.size + 1 := by omega
            clear hlt HSq HNq
            go_wp2_with fail
            refine bodyPost_ret (v := .tuple #[encT ⟨2, v.length, [], [], (M : Int), wide, S, N⟩ ⟨none, 0, none, 0, A2, c2, A3, c3⟩, .int .i64 0]) (by simp [results, Tryz.results36, go_sem, g0, g1, g2, g3, g4, g5, g6, g7]) rfl ?_
            rw [← HSe.out, ← HNe.out]
            refine ⟨A2, c2, A3, c3, rfl, rfl, rfl, ?_, ?_, HAP.out, ?_⟩
            · exact own_base (own_set (own_set (own_set (own_set (own_set (own_set (own_set (own_set HO.out hz _) hz _) hz _) hz _) hz _) hz _) hz _) hz _) (by omega)
            · exact own_base (own_set (own_set (own_set (own_set (own_set (own_set (own_set (own_set HP.out hz _) hz _) hz _) hz _) hz _) hz _) hz _) hz _) (by omega)
            · exact (((((((kw.setCell (by simp) _).setCell (by simp) _).setCell (by simp) _).setCell (by simp) _).setCell (by simp) _).setCell (by simp) _).setCell (by simp) _).setCell (by simp) _
      · have hS : prqS v wide s n = zeroS := if_neg (by rw [hp]; exact hm)
        rw [hp, hS]
        have hmv : mostV v = 0 ∨ True := .inr trivial
        obtain ⟨E, hE⟩ : ∃ E, mostE v = E := ⟨_, rfl⟩
        obtain ⟨V, hV⟩ : ∃ E, mostV v = E := ⟨_, rfl⟩
        rw [hE, hV] at C2
        rw [hE] at hm ⊢
        have hne : (E != 0) = true := by simpa using hm
        clear hS hp hm hE hV hmv h0 h0' ra rb uv un
        go_enter Tryz.func36, Tryz.ntmps36
        go_wp2_with fail
        have B0 := BoxL.new w [.int .i64 0, .int .i64 0, .slice none 0 0, .slice none 0 0, .int .i64 0, .int .i64 0, .slice none 0 0, .slice none 0 0] 32
        refine (C1.out _).mono ?_
        rintro _ _ ⟨rfl, rfl⟩
        go_wp2_with fail
        refine (C2.out _ (by go_grown)).mono ?_
        rintro _ w1 ⟨rfl, hb⟩
        have B1 := B0.below hb (by simp)
        have k1 : Below w.heap.size w w1 := Below.trans (by go_grown) (hb.mono (by simp))
        obtain ⟨⟨g0, g1, g2, g3, g4, g5, g6, g7⟩, n0, n1, n2, n3, n4, n5, n6, n7⟩ := B1.eight
        clear B0 B1 hb C1 C2
        go_wp2_with fail
        refine bodyPost_ret (v := .tuple #[encT zeroS zeroP, .int .i64 E]) (by simp [results, Tryz.results36, go_sem, zeroS, zeroP, g0, g1, g2, g3, g4, g5, g6, g7]) rfl ⟨none, 0, none, 0, rfl, rfl, rfl, own_nil _ _ _, own_nil _ _ _, apt_none _, ?_⟩
        exact (((((((k1.setCell (by simp) _).setCell (by simp) _).setCell (by simp) _).setCell (by simp) _).setCell (by simp) _).setCell (by simp) _).setCell (by simp) _).setCell (by simp) _
  · have he : prqE v wide = 1 := if_pos (.inl h1)
    have hS : prqS v wide s n = zeroS := if_neg (by rw [he]; decide)
    rw [he, hS]
    obtain ⟨E, hE⟩ : ∃ E, stsE wide = E := ⟨_, rfl⟩
    rw [hE] at C1 h1
    have hne : (E != 0) = true := by simpa using h1
    clear he hS hE h1 ra rb uv un hl C2
    go_enter Tryz.func36, Tryz.ntmps36
    go_wp2_with fail
    refine (C1.out _).mono ?_
    rintro _ _ ⟨rfl, rfl⟩
    go_wp2_with fail
    refine bodyPost_ret (v := .tuple #[encT zeroS zeroP, .int .i64 1]) (by simp [results, Tryz.results36, go_sem, zeroS, zeroP]) rfl ⟨none, 0, none, 0, rfl, rfl, rfl, own_nil _ _ _, own_nil _ _ _, apt_none _, by go_grown⟩
end Go.Proofs.YtecgbelgoomneaaGreat
