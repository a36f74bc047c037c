
/- ZFsT: texts joined: FsT. -/
import Derived.Test.YtecgbelgoomneaaGreatZe
import Derived.Test.YtecgbelgoomneaaGreatZc
import Derived.Test.YtecgbelgoomneaaGreatZPlP
import Derived.Deep.RegionHeld3
/- The program's reader: the next byte, the next number, the next numbers, signs, planes. -/
namespace Go.Proofs.YtecgbelgoomneaaGreat
open Go.RowKit
set_option maxHeartbeats 1000000
set_option maxRecDepth 100000
set_option linter.unusedVariables false
theorem get_fwd {b : List Int} {a : Int} (ub : U8s b) (h : getE b a = 0) : a + 1 ≤ getA b a ∧ getA b a ≤ b.length := by
  obtain ⟨h0, hu, j, hj, hA, ht⟩ := get_ok ub h
  have hp := lebI_pos (getN b a) hu.1
  have hl := congrArg List.length ht
  rw [List.length_take, List.length_drop] at hl
  rw [hA]
  omega
theorem wrap_w64 {n : Int} (h : U64 n) : RowKit.wrap64 n = w64 n := by
  unfold U64 at h
  unfold RowKit.wrap64 w64
  split <;> omega
theorem leb_ManyX {A : Option Addr} {c : Nat} (b : List Int) (hb : b.length ≤ c) (hc : c ≤ 9223372036854775807) (ub : U8s b) (hbl : b.length ≤ 1000000) (a many : Int) (ha : 0 ≤ a) (hal : a ≤ b.length) (hm0 : -9223372036854775808 ≤ many) (hm : many ≤ 9223372036854775807) (w : World) (ra : Rd (Value.int .u8) w w.heap.size A b) :
    Calls Tryz.prog 219 #[.slice A b.length c, .int .i64 a, .int .i64 many] w (OwnNums (mnyV b many a) w) := by
  by_cases h1 : many < 0
  · have e : mnyV b many a = ([], 0, 1) := if_pos h1
    rw [e]
    clear e ra ub
    go_enter Tryz.func219, Tryz.ntmps219
    go_wp2_with fail
    go_ret3
    exact ⟨none, 0, rfl, own_nil _ _ _, Below.refl _ _⟩
  obtain ⟨r, hr⟩ : ∃ r, mnyV b many a = r := ⟨_, rfl⟩
  rw [hr]
  unfold mnyV at hr
  rw [if_neg h1] at hr
  obtain ⟨M, hM⟩ : ∃ M : Nat, many.toNat = M := ⟨_, rfl⟩
  have hMm : many = (M : Int) := by omega
  rw [hM] at hr
  subst hMm
  have HRR := hid hr
  have HA := hid ra
  have HU := hid ub
  clear hr ra ub hM h1
  go_enter Tryz.func219, Tryz.ntmps219
  go_wp2_with fail
  go_loopw [1, 9, 16] (fun p t i wr => ∃ (k : Nat) (x : Int) (S : List Int) (A2 : Option Addr) (c2 : Nat), k ≤ M ∧ i = .int .i64 k ∧ p = .int .i64 x ∧ (k : Int) ≤ x ∧ x ≤ b.length ∧ t = .slice A2 S.length c2 ∧ S.length = k ∧ mny b (M - k) x S = r ∧ wr.ownsRow w.heap.size 25 1 (.slice A2 S.length c2) S.length (S.map (Value.int .u64)) ∧ Below w.heap.size w wr) (fun _ _ i _ => M - (intOf i).toNat)
  case atStart => exact ⟨0, a, [], none, 0, by omega, rfl, rfl, ha, hal, rfl, rfl, HRR.out, own_nil _ _ _, Below.refl _ _⟩
  case round =>
    obtain ⟨k, x, S, A2, c2, hk, rfl, rfl, hx, hxl, rfl, hSk, hs, ho, hbel⟩ := hrel
    have hSl : S.length ≤ 1000000 := by omega
    have hx64 : I64 x := by unfold I64; omega
    have HS := hid hs
    have HO := hid ho
    have HK := hid hSk
    clear hs ho hSk
    by_cases hlt : k < M
    · have CG := hid (leb_Get (A := A) (c := c) b hb hc HU.out x hx64)
      have HX := hid (fun h => get_fwd (b := b) (a := x) HU.out h)
      have HM : Hid ((getE b x = 0 → mny b (M - (k + 1)) (getA b x) (S ++ [getN b x]) = r) ∧ (getE b x ≠ 0 → r = ([], 0, getE b x))) := by
        have h := HS.out
        rw [show M - k = (M - (k + 1)) + 1 by omega, mny] at h
        exact ⟨fun e => by rw [if_pos e] at h; exact h, fun e => by rw [if_neg e] at h; exact h.symm⟩
      obtain ⟨N, hN⟩ : ∃ N, getN b x = N := ⟨_, rfl⟩
      obtain ⟨E, hE⟩ : ∃ N, getE b x = N := ⟨_, rfl⟩
      obtain ⟨X, hX⟩ : ∃ N, getA b x = N := ⟨_, rfl⟩
      rw [hN, hE, hX] at HM CG
      rw [hE, hX] at HX
      clear hN hE hX
      have hr2 := HA.out.below hbel
      go_wp2_with fail
      refine (CG.out _ hr2).mono ?_
      rintro _ _ ⟨rfl, rfl⟩
      clear hr2
      by_cases her : E = 0
      · have hX := HX.out her
        have h2 := HM.out.1 her
        have HM2 := hid h2
        clear h2
        subst her
        have h0 := own_on HO.out ((Below.refl wr.heap.size wr).alloc (Nat.le_refl _) (.cells #[.int .u64 N] 25))
        have hr0 : Rd (Value.int .u64) (wr.alloc (.cells #[.int .u64 N] 25)) _ (some ⟨wr.heap.size, 0, none⟩) [N] := rd_one (one_cell wr (.int .u64 N) 25).1
        go_wp2_with (at_builtin; refine wpList_app (Value.int .u64) (fun _ => rfl) _ rfl _ _ 29 rfl w.heap.size 25 (.int .u64 0) 8 Tryz.underlying29 info_u64 rfl S _ _ rfl h0 [N] _ 1 _ rfl hr0 (by simp [maxLen]; omega) (by simp; omega) (by have := hbel.size; simp; omega) ?_)
        rintro S' A' c' w1 hS' ho hb1 _
        have HS' := hid hS'
        have HO' := hid ho
        clear hS' ho h0 hr0
        go_wp2_with fail
        go_roundw
        case rel =>
          refine ⟨k + 1, X, S', A', c', by omega, by go_num, rfl, by omega, hX.2, rfl, ?_, ?_, HO'.out, (hbel.alloc hbel.size _).trans hb1⟩
          · rw [HS'.out, List.length_append, HK.out]; rfl
          · rw [HS'.out]; exact HM2.out
        case measure => simp [intOf]; omega
      · have hne : (E != 0) = true := by simpa using her
        have HR2 := hid (HM.out.2 her)
        go_wp2_with fail
        go_ret3
        rw [HR2.out]
        exact ⟨none, 0, rfl, own_nil _ _ _, hbel⟩
    · obtain rfl : k = M := by omega
      have HR2 : Hid (r = (S, x, 0)) := by
        have h := HS.out
        rw [Nat.sub_self, mny] at h
        exact h.symm
      go_wp2_with fail
      go_ret3
      rw [HR2.out]
      exact ⟨A2, c2, rfl, HO.out, hbel⟩
theorem pas_le {o : List Int} {σ : Rs} {a e : Int} (hs : σ.1 ≤ o.length) (h : e = 0 → a ≤ o.length) : (pas σ a e).1 ≤ o.length := by
  unfold pas
  split
  · rename_i he
    have := h he
    simp only
    omega
  · exact hs
theorem tak_le {o : List Int} {σ : Rs} {m : Int} (hs : σ.1 ≤ o.length) : (tak o σ m).2.1 ≤ o.length := by
  unfold tak
  split
  · exact hs
  · simp only; omega
theorem tak_len {o : List Int} {σ : Rs} {m : Int} : (tak o σ m).1.length ≤ o.length := by
  unfold tak
  split
  · simp
  · simp only [List.length_take, List.length_drop]; omega
theorem tak_u8 {o : List Int} (uo : U8s o) {σ : Rs} {m : Int} : U8s (tak o σ m).1 := by
  unfold tak
  split
  · intro x hx; simp at hx
  · exact (uo.drop _).take _
theorem gL_bad : ∀ (b : List Int) (k : Nat) (n : Int), (gL b k n).2.2 ≠ 0 → (gL b k n).1 = 0
  | [], _, _, _ => rfl
  | c :: cs, k, n, h => by
    rw [gL] at h ⊢
    split
    · rfl
    · rename_i h1
      rw [if_neg h1] at h
      split
      · rename_i h2
        rw [if_pos h2] at h
        split
        · rfl
        · rename_i h3
          rw [if_neg h3] at h
          simp at h
      · rename_i h2
        rw [if_neg h2] at h
        exact gL_bad cs _ _ h
/-- A list in blocks from B on. -/
def RdF {α : Type} (enc : α → Value) (w : World) (B : Nat) (A : Option Addr) (xs : List α) : Prop := ∀ k x, xs[k]? = some x → ∃ b off, A = some ⟨b, off, none⟩ ∧ B ≤ b ∧ b < w.heap.size ∧ w.cell? ⟨b, off + k, none⟩ = some (enc x)
section
variable {α : Type} {enc : α → Value} {w w' : World} {B g h : Nat} {A : Option Addr} {xs : List α}
theorem RdF.nil (w : World) (B : Nat) : RdF enc w B none ([] : List α) := fun k x hx => by simp at hx
theorem RdF.rd (r : RdF enc w B A xs) : Rd enc w w.heap.size A xs := fun k x hx => by
  obtain ⟨b, off, e, _, hl, hc⟩ := r k x hx
  exact ⟨b, off, e, hl, hc⟩
theorem RdF.off (r : RdF enc w B A xs) (a : Off g h w w') (hg : g < B) (hh : h < B) : RdF enc w' B A xs := fun k x hx => by
  obtain ⟨b, off, e, hB, hl, hc⟩ := r k x hx
  exact ⟨b, off, e, hB, Nat.lt_of_lt_of_le hl a.size, (World.cell?_of_block (w := w) (a := ⟨b, off + k, none⟩) (a.block b hl (by omega) (by omega))).trans hc⟩
theorem RdF.less {B' : Nat} (r : RdF enc w B A xs) (hB : B' ≤ B) : RdF enc w B' A xs := fun k x hx => by
  obtain ⟨b, off, e, h1, hl, hc⟩ := r k x hx
  exact ⟨b, off, e, Nat.le_trans hB h1, hl, hc⟩
theorem RdF.of_own {base c : Nat} {e : TypeId} (ho : w.ownsRow base e 1 (.slice A xs.length c) xs.length (xs.map enc)) : RdF enc w base A xs := fun k x hx => by
  obtain ⟨b, off, e1, hl, hc⟩ := own_rd ho k x hx
  subst e1
  exact ⟨b, off, rfl, (ho.lt b rfl).1, hl, hc⟩
theorem RdF.below (r : RdF enc w B A xs) (a : Below w.heap.size w w') : RdF enc w' B A xs := fun k x hx => by
  obtain ⟨b, off, e, hB, hl, hc⟩ := r k x hx
  exact ⟨b, off, e, hB, Nat.lt_of_lt_of_le hl a.size, (a.cell (p := ⟨b, off + k, none⟩) hl).trans hc⟩
end
/-- A list told that lies in blocks of the call's own, and an error. -/
def RdG {α : Type} (enc : α → Value) (xs : List α) (er : Int) (w : World) (e : Ending) (w' : World) : Prop :=
  ∃ A c, e = .returned (.tuple #[.slice A xs.length c, .int .i64 er]) ∧ RdF enc w' w.heap.size A xs ∧ Below w.heap.size w w'
theorem bysV_le (wd m : Int) : bysV wd m ≤ 20000 := by
  unfold bysV
  split
  · rename_i h
    obtain ⟨⟨h1, h2⟩, h3, h4⟩ := bys_ok h
    have := Int.mul_le_mul h2 h4 h3 (by decide)
    omega
  · decide
theorem pl_ReadX {A : Option Addr} {c : Nat} (many : Int) (b : List Int) (hm : I64 many) (hl : b.length ≤ 100000) (ub : U8s b) (w : World) (ra : Rd (Value.int .u8) w w.heap.size A b) :
    Calls Tryz.prog 223 #[.int .i64 many, .slice A b.length c] w (RdG Value.bool (bitV 1 many b) (bitE 1 many b) w) := by
  have CU := hid (pl_Unpack (A := A) (c := c) 1 many b (by decide) hm hl ub w ra)
  by_cases h : bitE 1 many b = 0
  · have hb := bys_ok (bitE_ok h).1
    obtain ⟨m, rfl⟩ := Int.eq_ofNat_of_zero_le hb.2.1
    have hm4 : m ≤ 4096 := by omega
    have hV : bitV 1 (m : Int) b = mkB m (fB b) := by
      unfold bitV
      rw [if_pos h, Int.toNat_natCast, show (1 : Int).toNat = 1 from rfl, Nat.one_mul]
    have hU := upk_one h
    rw [Int.toNat_natCast] at hU
    rw [hU, h] at CU
    rw [hV, h]
    obtain ⟨f, hf⟩ : ∃ f, fB b = f := ⟨_, rfl⟩
    rw [hf] at CU ⊢
    obtain ⟨L, hL⟩ : ∃ L, (List.range m).map (fun i => b2 (f i)) = L := ⟨_, rfl⟩
    have hLl : L.length = m := by rw [← hL]; simp
    have HLa : Hid (∀ i x, L[i]? = some x → i < m → x = b2 (f i)) := hid (fun i x hx hi => by
      rw [← hL, List.getElem?_map, List.getElem?_range hi, Option.map_some] at hx
      injection hx with hx
      exact hx.symm)
    rw [hL] at CU
    have HLl := hid hLl
    have hmk := fun W => run_make_row' (P := Tryz.prog) 30 4 (.bool false) 1 Tryz.underlying30 info_bool rfl .i64 .i64 m (by omega) (by omega) W
    clear h hV hU hf hL ra ub hb hm
    go_enter Tryz.func223, Tryz.ntmps223
    go_wp2_with fail
    refine CU.out.mono ?_
    rintro _ w1 ⟨A1, c1, rfl, ho, hb1⟩
    have RL := hid (own_rd ho)
    have HK := hid hb1
    rw [hLl]
    clear ho hb1 CU hLl
    go_wp2_with fail
    go_loopw [9, 10, 24] (fun i0 n0 i wr => ∃ k : Nat, k ≤ m ∧ i = .int .i64 k ∧ wr.rowIs w1.heap.size 4 m (fun j => .bool (if j < k then f j else false)) ∧ Below w1.heap.size w1 wr) (fun _ _ i _ => m - (intOf i).toNat)
    case atStart => exact ⟨0, by omega, rfl, by simpa using World.rowIs_made w1 (.bool false) m _, by go_grown⟩
    case round =>
      obtain ⟨k, hk, rfl, hrow, hbel⟩ := hrel
      have HR := hid hrow
      clear hmk
      by_cases hlt : k < m
      · obtain ⟨g1, o1, x, rfl, l1, ex, c1⟩ := (RL.out.below hbel).at_ (k := k) (by rw [HLl.out]; exact hlt)
        have hx := HLa.out k x ex hlt
        have f1 := hrow.frozen k
        have c2 := hrow.cell hlt
        rw [if_neg (Nat.lt_irrefl k)] at c2
        have e1 : (x == 1) = f k := by rw [hx]; cases f k <;> rfl
        have hxb : 0 ≤ x ∧ x ≤ 1 := by rw [hx]; exact b2_le _
        obtain ⟨v, hv⟩ : ∃ v, f k = v := ⟨_, rfl⟩
        rw [hv] at e1
        have HV := hid hv
        clear ex hx hrow hv
        go_wp2_with fail
        go_roundw
        case rel =>
          refine ⟨k + 1, by omega, by go_num, ?_, hbel.setCell (Nat.le_refl _) _⟩
          refine (HR.out.set k (.bool v)).congr fun j hj => ?_
          by_cases e : j = k
          · rw [if_pos e, e, if_pos (by omega), HV.out]
          · rw [if_neg e]
            by_cases e2 : j < k
            · rw [if_pos e2, if_pos (by omega)]
            · rw [if_neg e2, if_neg (by omega)]
        case measure => simp [intOf]; omega
      · obtain rfl : k = m := by omega
        have HB := hid hbel
        clear hrow
        go_wp2_with fail
        go_ret2
        refine ⟨some ⟨w1.heap.size, 0, none⟩, k, ?_, ?_, HK.out.trans (hbel.mono HK.out.size)⟩
        · rw [mkB_len]; rfl
        · intro j x hx
          have hj : j < k := by have := (List.getElem?_eq_some_iff.1 hx).1; rw [mkB_len] at this; exact this
          refine ⟨w1.heap.size, 0, rfl, HK.out.size, HR.out.lt, ?_⟩
          rw [Nat.zero_add, HR.out.cell hj, if_pos hj]
          rw [mkB_at _ hj] at hx
          injection hx with hx
          rw [hx]
  · have e : bitV 1 many b = [] := if_neg h
    have e2 : upkV 1 many b = [] := if_neg h
    rw [e]
    rw [e2] at CU
    obtain ⟨E, hE⟩ : ∃ E, bitE 1 many b = E := ⟨_, rfl⟩
    rw [hE] at CU h ⊢
    have hne : (E != 0) = true := by simpa using h
    clear h e e2 hE ra ub
    go_enter Tryz.func223, Tryz.ntmps223
    go_wp2_with fail
    refine CU.out.mono ?_
    rintro _ w1 ⟨A1, c1, rfl, _, hb1⟩
    go_wp2_with fail
    go_ret2
    exact ⟨none, 0, rfl, RdF.nil _ _, hb1⟩
theorem fr_one {g c : Nat} {A : Option Addr} (o : List Int) (ho : o.length ≤ c) (hc : c ≤ 9223372036854775807) (hol : o.length ≤ 70000) (uo : U8s o) (σ : Rs) (ha : σ.1 ≤ o.length) (w : World) (hb : RdB w g A o.length c σ) (ra : Rd (Value.int .u8) w g A o) :
    Calls Tryz.prog 114 #[.pointer (some ⟨g, 0, none⟩)] w fun r w' => r = .returned (.int .i64 (one2 o σ).1) ∧ RdB w' g A o.length c (one2 o σ).2 ∧ Off g g w w' := by
  have CT := hid (fr_take o ho hc hol σ ha 1 (by decide) (by decide) w hb ra)
  have hl : (tak o σ 1).1.length ≤ 1 := by
    unfold tak
    split
    · simp
    · simp only [List.length_take]; omega
  have hu := tak_u8 uo (σ := σ) (m := 1)
  unfold one2
  simp only
  obtain ⟨p, τ, ht⟩ : ∃ p τ, tak o σ 1 = (p, τ) := ⟨_, _, rfl⟩
  rw [ht] at CT hl hu ⊢
  simp only at CT hl hu ⊢
  clear hb ra ht ha
  match p, hl with
  | [], _ =>
    go_enter Tryz.func114, Tryz.ntmps114
    go_wp2_with fail
    refine CT.out.mono ?_
    rintro _ w1 ⟨A2, c2, rfl, hr1, hb1, ho1⟩
    have HB := hid hb1
    clear hr1 hb1
    go_wp2_with fail
    go_ret
    exact ⟨rfl, HB.out, ho1⟩
  | [x], _ =>
    have hx := hu x (by simp)
    go_enter Tryz.func114, Tryz.ntmps114
    go_wp2_with fail
    refine CT.out.mono ?_
    rintro _ w1 ⟨A2, c2, rfl, hr1, hb1, ho1⟩
    obtain ⟨b1, o1, rfl, l1, cx⟩ := hr1 0 x rfl
    rw [Nat.add_zero] at cx
    have HB := hid hb1
    clear hr1 hb1
    go_wp2_with fail
    go_ret
    exact ⟨rfl, HB.out, ho1⟩
theorem fr_number {g c : Nat} {A : Option Addr} (o : List Int) (ho : o.length ≤ c) (hc : c ≤ 9223372036854775807) (hol : o.length ≤ 70000) (uo : U8s o) (σ : Rs) (ha : σ.1 ≤ o.length) (w : World) (hb : RdB w g A o.length c σ) (ra : Rd (Value.int .u8) w g A o) (hg : g < w.heap.size) :
    Calls Tryz.prog 115 #[.pointer (some ⟨g, 0, none⟩)] w fun r w' => r = .returned (.int .i64 (num2 o σ).1) ∧ RdB w' g A o.length c (num2 o σ).2 ∧ Off g g w w' := by
  obtain ⟨c0, c1, c2, f0, f1, f2⟩ := hb.three
  obtain ⟨a, z⟩ := σ
  simp only at ha c1 c2
  have CG : Hid (∀ n, Calls Tryz.prog 154 #[.slice A o.length c, .int .i64 (a : Int)] (w.drewN n) fun e w' => e = .returned (.tuple #[.int .u64 (getN o a), .int .i64 (getA o a), .int .i64 (getE o a)]) ∧ w.drewN n = w') := hid (fun n => leb_Get (A := A) (c := c) o ho hc uo a (by unfold I64; omega) (w.drewN n) ra)
  have CP := hid (fun W hW => fr_pass (g := g) (n := o.length) (c := c) (A := A) (a, z) (getA o a) (getE o a) (fun h => by have := (get_fwd uo h).1; omega) W hW)
  have hN : RowKit.wrap64 (getN o a) = w64 (getN o a) := by
    by_cases he : getE o a = 0
    · exact wrap_w64 (get_ok uo he).2.1
    · have : getN o a = 0 := by
        unfold getE at he
        unfold getN
        rw [if_neg (by omega)] at he ⊢
        exact gL_bad _ _ _ he
      rw [this, wrap_w64 (by decide)]
  have HB := hid hb
  unfold num2
  simp only
  obtain ⟨N, hNN⟩ : ∃ N, getN o a = N := ⟨_, rfl⟩
  obtain ⟨X, hX⟩ : ∃ N, getA o a = N := ⟨_, rfl⟩
  obtain ⟨E, hE⟩ : ∃ N, getE o a = N := ⟨_, rfl⟩
  rw [hNN, hX, hE] at CG
  rw [hX, hE] at CP
  rw [hNN] at hN
  rw [hNN, hX, hE]
  obtain ⟨V, hV⟩ : ∃ V, w64 N = V := ⟨_, rfl⟩
  rw [hV] at hN ⊢
  have hN2 : IntKind.i64.wrap N = V := (Go.IntWalk.i64_left N).trans hN
  clear hb ra ha hNN hX hE hV
  go_enter Tryz.func115, Tryz.ntmps115
  go_wp2_with fail
  go_quiet ((go_at_call 154; exact quietR CG.out _))
  go_wp2_with fail
  have HBq : RdB (w.drewN nq) g A o.length c (a, z) := HB.out
  refine (CP.out _ HBq).mono ?_
  clear HBq
  rintro _ w1 ⟨rfl, hb1, ho1⟩
  have HB1 := hid hb1
  clear hb1
  go_wp2_with fail
  go_ret
  exact ⟨rfl, HB1.out, (Off.of (belowN _ w _)).trans ho1⟩
theorem fr_signs {g c : Nat} {A : Option Addr} (o : List Int) (ho : o.length ≤ c) (hc : c ≤ 9223372036854775807) (hol : o.length ≤ 70000) (uo : U8s o) (σ : Rs) (ha : σ.1 ≤ o.length) (m : Int) (hm : I64 m) (w : World) (hb : RdB w g A o.length c σ) (ra : Rd (Value.int .u8) w g A o) (hg : g < w.heap.size) :
    Calls Tryz.prog 196 #[.pointer (some ⟨g, 0, none⟩), .int .i64 m] w fun r w' => ∃ A2 c2, r = .returned (.slice A2 (sgs2 o σ m).1.length c2) ∧ RdF Value.bool w' w.heap.size A2 (sgs2 o σ m).1 ∧ RdB w' g A o.length c (sgs2 o σ m).2 ∧ Off g g w w' := by
  have CB := hid (fun W => pl_Bytes 1 m (by decide) hm W)
  have hl := tak_len (o := o) (σ := σ) (m := bysV 1 m)
  have hu := tak_u8 uo (σ := σ) (m := bysV 1 m)
  have CT := hid (fr_take o ho hc hol σ ha (bysV 1 m) (bysV_pos _ _) (by have := bysV_le 1 m; omega) w hb ra)
  unfold sgs2
  simp only
  obtain ⟨p, τ, ht⟩ : ∃ p τ, tak o σ (bysV 1 m) = (p, τ) := ⟨_, _, rfl⟩
  rw [ht] at CT hl hu ⊢
  simp only at CT hl hu ⊢
  obtain ⟨t1, t2⟩ := τ
  simp only at CT ⊢
  have CR := hid (fun (A2 : Option Addr) (c2 : Nat) W hW => pl_ReadX (A := A2) (c := c2) m p hm (by omega) hu W hW)
  have CP := hid (fun W hW => fr_pass (g := g) (n := o.length) (c := c) (A := A) (t1, t2) (t1 : Int) (bitE 1 m p) (fun _ => by omega) W hW)
  obtain ⟨L, hL⟩ : ∃ L, bitV 1 m p = L := ⟨_, rfl⟩
  obtain ⟨E, hE⟩ : ∃ L, bitE 1 m p = L := ⟨_, rfl⟩
  obtain ⟨N, hN⟩ : ∃ N, bysV 1 m = N := ⟨_, rfl⟩
  obtain ⟨NE, hNE⟩ : ∃ N, bysE 1 m = N := ⟨_, rfl⟩
  rw [hL, hE] at CR
  rw [hE] at CP
  rw [hN, hNE] at CB
  rw [hN] at CT
  rw [hL, hE]
  obtain ⟨υ, hυ⟩ : ∃ υ, pas (t1, t2) (t1 : Int) E = υ := ⟨_, rfl⟩
  rw [hυ] at CP ⊢
  clear hb ra ht ha hL hE hN hNE hυ hl hu
  go_enter Tryz.func196, Tryz.ntmps196
  go_wp2_with fail
  refine (CB.out _).mono ?_
  rintro _ _ ⟨rfl, rfl⟩
  go_wp2_with fail
  refine CT.out.mono ?_
  rintro _ w1 ⟨A2, c2, rfl, hr1, hb1, o1⟩
  have hg1 : g < w1.heap.size := Nat.lt_of_lt_of_le hg o1.size
  have HR1 := hid (hr1.more (Nat.le_of_lt hg1))
  have HB1 := hid hb1
  clear hr1 hb1
  go_wp2_with fail
  refine (CR.out _ _ _ HR1.out).mono ?_
  rintro _ w2 ⟨A3, c3, rfl, hr2, hb2⟩
  have HB2 := hid (HB1.out.below hb2 hg1)
  have HR2 := hid hr2
  have o2 := o1.trans (Off.of hb2)
  obtain ⟨q0, q1, q2, f0, f1, f2⟩ := RdB.three HB2.out
  clear hr2 HB1 HR1
  simp only at q1 q2
  go_wp2_with fail
  refine (CP.out _ HB2.out).mono ?_
  rintro _ w3 ⟨rfl, hb3, o3⟩
  have HR3 := hid ((HR2.out.off o3 hg1 hg1).less o1.size)
  have HB3 := hid hb3
  have o4 := o2.trans o3
  clear hb3 HR2 q0 q1 q2 f0 f1 f2
  go_wp2_with fail
  go_ret
  exact ⟨A3, c3, rfl, HR3.out, HB3.out, o4⟩
theorem fr_planes {g c : Nat} {A : Option Addr} (o : List Int) (ho : o.length ≤ c) (hc : c ≤ 9223372036854775807) (hol : o.length ≤ 70000) (uo : U8s o) (σ : Rs) (ha : σ.1 ≤ o.length) (wd m : Int) (hwd : I64 wd) (hm : I64 m) (w : World) (hb : RdB w g A o.length c σ) (ra : Rd (Value.int .u8) w g A o) (hg : g < w.heap.size) :
    Calls Tryz.prog 195 #[.pointer (some ⟨g, 0, none⟩), .int .i64 wd, .int .i64 m] w fun r w' => ∃ A2 c2, r = .returned (.slice A2 (pln2 o σ wd m).1.length c2) ∧ RdF (Value.int .u64) w' w.heap.size A2 (pln2 o σ wd m).1 ∧ RdB w' g A o.length c (pln2 o σ wd m).2 ∧ Off g g w w' := by
  have CB := hid (fun W => pl_Bytes wd m hwd hm W)
  have hl := tak_len (o := o) (σ := σ) (m := bysV wd m)
  have hu := tak_u8 uo (σ := σ) (m := bysV wd m)
  have CT := hid (fr_take o ho hc hol σ ha (bysV wd m) (bysV_pos _ _) (by have := bysV_le wd m; omega) w hb ra)
  unfold pln2
  simp only
  obtain ⟨p, τ, ht⟩ : ∃ p τ, tak o σ (bysV wd m) = (p, τ) := ⟨_, _, rfl⟩
  rw [ht] at CT hl hu ⊢
  simp only at CT hl hu ⊢
  obtain ⟨t1, t2⟩ := τ
  simp only at CT ⊢
  have CR := hid (fun (A2 : Option Addr) (c2 : Nat) W hW => pl_Unweave (A := A2) (c := c2) wd m p hwd hm (by omega) hu W hW)
  have CP := hid (fun W hW => fr_pass (g := g) (n := o.length) (c := c) (A := A) (t1, t2) (t1 : Int) (bitE wd m p) (fun _ => by omega) W hW)
  obtain ⟨L, hL⟩ : ∃ L, uwvV wd m p = L := ⟨_, rfl⟩
  obtain ⟨E, hE⟩ : ∃ L, bitE wd m p = L := ⟨_, rfl⟩
  obtain ⟨N, hN⟩ : ∃ N, bysV wd m = N := ⟨_, rfl⟩
  obtain ⟨NE, hNE⟩ : ∃ N, bysE wd m = N := ⟨_, rfl⟩
  rw [hL, hE] at CR
  rw [hE] at CP
  rw [hN, hNE] at CB
  rw [hN] at CT
  rw [hL, hE]
  obtain ⟨υ, hυ⟩ : ∃ υ, pas (t1, t2) (t1 : Int) E = υ := ⟨_, rfl⟩
  rw [hυ] at CP ⊢
  clear hb ra ht ha hL hE hN hNE hυ hl hu
  go_enter Tryz.func195, Tryz.ntmps195
  go_wp2_with fail
  refine (CB.out _).mono ?_
  rintro _ _ ⟨rfl, rfl⟩
  go_wp2_with fail
  refine CT.out.mono ?_
  rintro _ w1 ⟨A2, c2, rfl, hr1, hb1, o1⟩
  have hg1 : g < w1.heap.size := Nat.lt_of_lt_of_le hg o1.size
  have HR1 := hid (hr1.more (Nat.le_of_lt hg1))
  have HB1 := hid hb1
  clear hr1 hb1
  go_wp2_with fail
  refine (CR.out _ _ _ HR1.out).mono ?_
  rintro _ w2 ⟨A3, c3, rfl, hr2, hb2⟩
  have HB2 := hid (HB1.out.below hb2 hg1)
  have HR2 := hid (RdF.of_own hr2)
  have o2 := o1.trans (Off.of hb2)
  obtain ⟨q0, q1, q2, f0, f1, f2⟩ := RdB.three HB2.out
  clear hr2 HB1 HR1
  simp only at q1 q2
  go_wp2_with fail
  refine (CP.out _ HB2.out).mono ?_
  rintro _ w3 ⟨rfl, hb3, o3⟩
  have HR3 := hid ((HR2.out.off o3 hg1 hg1).less o1.size)
  have HB3 := hid hb3
  have o4 := o2.trans o3
  clear hb3 HR2 q0 q1 q2 f0 f1 f2
  go_wp2_with fail
  go_ret
  exact ⟨A3, c3, rfl, HR3.out, HB3.out, o4⟩
theorem mny_len {o : List Int} : ∀ (k : Nat) (x : Int) (S : List Int), U8s o → (0 ≤ x ∧ x ≤ o.length) → S.length ≤ x → (mny o k x S).1.length ≤ o.length ∧ ((mny o k x S).2.2 = 0 → 0 ≤ (mny o k x S).2.1 ∧ (mny o k x S).2.1 ≤ o.length)
  | 0, x, S, _, hx, hS => by
    rw [mny]
    simp only
    exact ⟨by omega, fun _ => hx⟩
  | k + 1, x, S, uo, hx, hS => by
    rw [mny]
    split
    · rename_i he
      have h := get_fwd uo he
      exact mny_len k _ _ uo ⟨by omega, h.2⟩ (by rw [List.length_append, List.length_singleton]; omega)
    · rename_i he
      simp only
      exact ⟨by simp, fun h => absurd h he⟩
theorem mny_u64 {o : List Int} : ∀ (k : Nat) (x : Int) (S : List Int), U8s o → U64s S → U64s (mny o k x S).1
  | 0, x, S, _, hS => by
    rw [mny]; exact hS
  | k + 1, x, S, uo, hS => by
    rw [mny]
    split
    · rename_i he
      refine mny_u64 k _ _ uo (fun y hy => ?_)
      rcases List.mem_append.1 hy with h | h
      · exact hS y h
      · simp at h; subst h; exact (get_ok uo he).2.1
    · intro y hy; simp at hy
theorem mnyV_all {o : List Int} (uo : U8s o) (m : Int) (a : Nat) (ha : a ≤ o.length) : (mnyV o m a).1.length ≤ o.length ∧ ((mnyV o m a).2.2 = 0 → 0 ≤ (mnyV o m a).2.1 ∧ (mnyV o m a).2.1 ≤ o.length) ∧ U64s (mnyV o m a).1 := by
  unfold mnyV
  split
  · exact ⟨by simp, fun h => by simp at h, by intro y hy; simp at hy⟩
  · have h := mny_len (o := o) m.toNat a [] uo ⟨by omega, by omega⟩ (by simp)
    exact ⟨h.1, h.2, mny_u64 _ _ _ uo (by intro y hy; simp at hy)⟩
theorem fr_numbers {g c : Nat} {A : Option Addr} (o : List Int) (ho : o.length ≤ c) (hc : c ≤ 9223372036854775807) (hol : o.length ≤ 70000) (uo : U8s o) (σ : Rs) (ha : σ.1 ≤ o.length) (m : Int) (hm : I64 m) (w : World) (hb : RdB w g A o.length c σ) (ra : Rd (Value.int .u8) w g A o) (hg : g < w.heap.size) :
    Calls Tryz.prog 193 #[.pointer (some ⟨g, 0, none⟩), .int .i64 m] w fun r w' => ∃ A2 c2, r = .returned (.slice A2 (nms2 o σ m).1.length c2) ∧ RdF (Value.int .i64) w' w.heap.size A2 (nms2 o σ m).1 ∧ RdB w' g A o.length c (nms2 o σ m).2 ∧ Off g g w w' := by
  obtain ⟨c0, c1, c2, f0, f1, f2⟩ := hb.three
  obtain ⟨a, z⟩ := σ
  simp only at ha c1 c2
  unfold I64 at hm
  have hall := mnyV_all uo m a ha
  have CM0 := fun W hW => leb_ManyX (A := A) (c := c) o ho hc uo (by omega) a m (by omega) (by omega) hm.1 hm.2 W hW
  unfold nms2
  simp only
  obtain ⟨L, y, E, hr⟩ : ∃ L y E, mnyV o m a = (L, y, E) := ⟨_, _, _, rfl⟩
  rw [hr] at hall CM0 ⊢
  have CM : Hid (∀ W, Rd (Value.int .u8) W W.heap.size A o → Calls Tryz.prog 219 #[.slice A o.length c, .int .i64 (a : Int), .int .i64 m] W fun e w' => ∃ A2 d2, e = .returned (.tuple #[.slice A2 L.length d2, .int .i64 y, .int .i64 E]) ∧ w'.ownsRow W.heap.size 25 1 (.slice A2 L.length d2) L.length (L.map (Value.int .u64)) ∧ Below W.heap.size W w') := hid CM0
  clear CM0
  simp only at hall ⊢
  have CP := hid (fun W hW => fr_pass (g := g) (n := o.length) (c := c) (A := A) (a, z) y E (fun h => (hall.2.1 h).1) W hW)
  obtain ⟨υ, hυ⟩ : ∃ υ, pas (a, z) y E = υ := ⟨_, rfl⟩
  rw [hυ] at CP ⊢
  have UL := hid hall.2.2
  have hLl : L.length ≤ 70000 := by have := hall.1; omega
  have HB0 := hid hb
  have HRA := hid ra
  have lg : g < w.heap.size := hg
  have hmk := fun W => run_make_row' (P := Tryz.prog) 24 2 (.int .i64 0) 8 Tryz.underlying24 info_i64 rfl .i64 .i64 L.length (by omega) (by omega) W
  clear hall hr hυ hb ra ha
  rw [List.length_map]
  go_enter Tryz.func193, Tryz.ntmps193
  go_wp2_with fail
  first | (go_region_held3 (fun w' => w'.cell? ⟨g, 0, none⟩ = some (.slice A o.length c) ∧ w'.cell? ⟨g, 1, none⟩ = some (.int .i64 (a : Int)) ∧ w'.cell? ⟨g, 2, none⟩ = some (.bool z) ∧ Below w.heap.size w w') (first | exact ⟨c0, c1, c2, (Below.refl _ _).drew⟩ | (have hk := below_step ((Below.refl _ _).drew) hb1 (Nat.le_refl _); exact ⟨(hk.cell lg).trans c0, (hk.cell lg).trans c1, (hk.cell lg).trans c2, hk⟩) | assumption) (first | (go_at_call 219; refine (CM.out _ (by exact (HRA.out.more (Nat.le_of_lt lg)))).mono ?_; rintro _ w1 ⟨A1, d1, rfl, ho1, hb1⟩) | fail)) | fail
  all_goals
    have HO1 := hid (RdF.of_own ho1)
    have hB1 := hid ((show RdB w.drew g A o.length c (a, z) from HB0.out).below hb1 lg)
    have q1 : Off g g w w1 := (show Off g g w w.drew from Off.of ((Below.refl _ _).drew)).trans (Off.of hb1)
    clear ho1
    go_wp2_with fail
    refine (CP.out _ hB1.out).mono ?_
    rintro _ w2 ⟨rfl, hb2, o2⟩
    have HO2 := hid (HO1.out.off o2 lg lg)
    have HB2 := hid hb2
    have q2 := q1.trans o2
    have hq2 := q2.size
    clear hb2 HO1 hB1 hb1 CM CP
    go_wp2_with fail
    go_loopw [36] (fun i wr => ∃ k : Nat, k ≤ L.length ∧ i = .int .i64 k ∧ wr.rowIs w2.heap.size 2 L.length (fun j => if j < k then .int .i64 (zagI (L.getD j 0)) else .int .i64 0) ∧ Below w2.heap.size w2 wr) (fun i _ => L.length - (intOf i).toNat)
    case atStart => exact ⟨0, by omega, rfl, by simpa using World.rowIs_made w2 (.int .i64 0) L.length _, by go_grown⟩
    case round =>
      obtain ⟨k, hk, rfl, hrow, hbel⟩ := hrel
      have hz := hrow.lt
      clear hmk
      by_cases hlt : k < L.length
      · obtain ⟨b1, o1, x, rfl, l1, ex, c1⟩ := (HO2.out.rd.below hbel).at_ hlt
        have CZ := hid (leb_Zag x (UL.out.at_ ex))
        obtain ⟨v, hv⟩ : ∃ v, zagI x = v := ⟨_, rfl⟩
        rw [hv] at CZ
        have HZ : Hid (zagI (L.getD k 0) = v) := by rw [getD_of ex]; exact hv
        have f1 := hrow.frozen k
        have c2 := hrow.cell hlt
        rw [if_neg (Nat.lt_irrefl k)] at c2
        clear ex hv
        go_wp2_with fail
        refine (CZ.out _).mono ?_
        rintro _ _ ⟨rfl, rfl⟩
        go_wp2_with fail
        go_roundw
        case rel =>
          refine ⟨k + 1, by omega, by go_num, ?_, hbel.setCell (Nat.le_refl _) _⟩
          refine (hrow.set k (.int .i64 v)).congr fun j hj => ?_
          by_cases e : j = k
          · subst e
            rw [if_pos rfl, if_pos (by omega), HZ.out]
          · rw [if_neg e]
            by_cases e2 : j < k
            · rw [if_pos e2, if_pos (by omega)]
            · rw [if_neg e2, if_neg (by omega)]
        case measure => simp [intOf]; omega
      · obtain rfl : k = L.length := by omega
        have HRW := hid hrow
        have HBL := hid hbel
        clear hrow hbel
        go_wp2_with fail
        go_ret
        refine ⟨some ⟨w2.heap.size, 0, none⟩, _, rfl, fun j x hx => ?_, HB2.out.below HBL.out (by have := HB2.out.lt (by simp); exact this), q2.trans (Off.of HBL.out)⟩
        rw [List.getElem?_map, Option.map_eq_some_iff] at hx
        obtain ⟨y, hy, rfl⟩ := hx
        have hj := (List.getElem?_eq_some_iff.1 hy).1
        refine ⟨w2.heap.size, 0, rfl, hq2, HRW.out.lt, ?_⟩
        rw [Nat.zero_add, HRW.out.cell hj, if_pos hj, getD_of hy]
end Go.Proofs.YtecgbelgoomneaaGreat
