
/- YPsB: texts joined: PsB. -/
import Derived.Test.YtecgbelgoomneaaGreatYPsA
import Derived.Test.YtecgbelgoomneaaGreatYb
import Derived.Test.YtecgbelgoomneaaGreatYe
import Derived.Test.YtecgbelgoomneaaGreatYa
/- Loosened by way, what is left, how many bytes: the document's. -/
namespace Go.Proofs.YtecgbelgoomneaaGreat
open Go.RowKit
set_option maxHeartbeats 4000000
set_option maxRecDepth 100000
set_option linter.unusedVariables false
theorem may_top {s : SentV} (h : mayB s = true) (h1 : s.sch = 1) : 1 ≤ s.dim ∧ s.dim ≤ 4096 ∧ chkE s.dim s.L = 0 ∧ s.V.length = s.L.length := by
  obtain ⟨d1, d2, hp⟩ := mayB_iff.1 h
  rcases hp with ⟨e, _⟩ | ⟨e, e2, e3, _⟩ | ⟨e, _⟩ | ⟨e, _⟩
  · omega
  · exact ⟨d1, d2, e2, e3⟩
  · omega
  · omega
theorem may_sch {s : SentV} (h : mayB s = true) : s.sch = 0 ∨ s.sch = 1 ∨ s.sch = 2 ∨ s.sch = 3 := by
  obtain ⟨d1, d2, hp⟩ := mayB_iff.1 h
  rcases hp with ⟨e, _⟩ | ⟨e, _⟩ | ⟨e, _⟩ | ⟨e, _⟩ <;> omega
theorem plo_by {s : SentV} (h : mayB s = true) : (s.sch = 0 → ploV s = s.V) ∧ (s.sch = 1 → ploV s = spV s.dim s.L s.V) ∧ (s.sch = 2 → ploV s = loqV s ∧ loqE s = 0) ∧ (s.sch = 3 → ploV s = lsgV s ∧ lsgE s = 0) := by
  refine ⟨fun e => ?_, fun e => ?_, fun e => ⟨?_, if_pos ⟨h, e⟩⟩, fun e => ⟨?_, if_pos ⟨h, e⟩⟩⟩ <;> (unfold ploV; rw [if_pos h, e]; simp)
theorem ref_Loosen12 (s : SentV) (p : SentP) (hn : lnS 100000 s) (hw : wfS s) (w : World) (ra : RdS w w.heap.size s p) :
    Calls Tryz.prog 21 #[encT s p] w (OwnE 2 .i64 w.heap.size (ploV s) (ploE s) w) := by
  obtain ⟨AL, cL, AV, cV, AE, cE, AN, cN⟩ := p
  have CM := hid (fun W (h : Below w.heap.size w W) => show Calls Tryz.prog 43 #[.agg #[.int .i64 s.sch, .int .i64 s.dim, .slice AL s.L.length cL, .slice AV s.V.length cV, .int .i64 s.scale, .int .i64 s.wide, .slice AE s.lev.length cE, .slice AN s.neg.length cN]] W fun e w' => e = .returned (.bool (mayB s)) ∧ Below W.heap.size W w' from ref_May s ⟨AL, cL, AV, cV, AE, cE, AN, cN⟩ hn hw W (B := w.heap.size) h.size (ra.below h))
  show Calls Tryz.prog 21 #[.agg #[.int .i64 s.sch, .int .i64 s.dim, .slice AL s.L.length cL, .slice AV s.V.length cV, .int .i64 s.scale, .int .i64 s.wide, .slice AE s.lev.length cE, .slice AN s.neg.length cN]] w _
  by_cases hm : mayB s = true
  · rw [hm] at CM
    obtain ⟨p0, p1, p2, p3⟩ := plo_by hm
    have hE : ploE s = 0 := ploE_ok.2 hm
    rw [hE]
    rcases may_sch hm with h | h | h | h
    · rw [p0 h]
      have HV := hid (fun W (h : Below w.heap.size w W) => (ra.2.1.below h).more h.size)
      have hvl : s.V.length ≤ 100000 := hn.2.1
      have t1 : (s.sch == 1) = false := beq_eq_false_iff_ne.2 (by omega)
      have t2 : (s.sch == 2) = false := beq_eq_false_iff_ne.2 (by omega)
      have t3 : (s.sch == 3) = false := beq_eq_false_iff_ne.2 (by omega)
      clear p0 p1 p2 p3 hE hm h ra hn hw
      go_enter Tryz.func21, Tryz.ntmps21
      go_wp2_with fail
      have B0 := BoxL.new w [.int .i64 s.sch, .int .i64 s.dim, .slice AL s.L.length cL, .slice AV s.V.length cV, .int .i64 s.scale, .int .i64 s.wide, .slice AE s.lev.length cE, .slice AN s.neg.length cN] 32
      refine (CM.out _ (by go_grown)).mono ?_
      rintro _ w1 ⟨rfl, hb⟩
      have HB1 := hid (B0.below hb (by simp))
      have k1 : Below w.heap.size w w1 := Below.trans (by go_grown) (hb.mono (by simp))
      have hg1 : w.heap.size < w1.heap.size := by have := hb.size; simp at this; omega
      obtain ⟨⟨f0, f1, f2, f3, f4, f5, f6, f7⟩, _⟩ := HB1.out.eight
      clear B0 hb CM
      have r1 := HV.out _ k1
      go_wp2_with (at_builtin; refine wpList_app (Value.int .i64) (fun _ => rfl) _ rfl _ _ 24 rfl w1.heap.size 2 (.int .i64 0) 8 Tryz.underlying24 info_i64 rfl [] none 0 rfl (own_nil _ _ _) s.V _ cV _ rfl r1 (by simp [maxLen]; omega) (by first | (simp; done) | (simp; omega)) (by omega) ?_)
      rintro S' A' c' w2 hS' ho' hb2 _
      have hSv : S' = s.V := by simpa using hS'
      have hfin : OwnE 2 .i64 w.heap.size s.V 0 w (.returned (.tuple #[.slice A' s.V.length c', .int .i64 0])) w2 := by
        rw [hSv] at ho'
        exact ⟨A', c', rfl, own_base ho' k1.size, k1.trans (hb2.mono k1.size)⟩
      have hll : S'.length = s.V.length := by rw [hSv]
      rw [hll]
      clear ho' hb2 hS' r1 HB1 HV hSv hll
      go_wp2_with fail
      go_ret2
      exact hfin
    · rw [p1 h]
      obtain ⟨d1, d2, hc, hvl⟩ := may_top hm h
      obtain ⟨K, hK⟩ := Int.eq_ofNat_of_zero_le (show 0 ≤ s.dim by omega)
      have hP := chk_ok.1 hc
      have hsp : spV s.dim s.L s.V = (List.range K).map fun j : Nat => spF s.L s.V (j : Int) := by
        rw [hK] at hc ⊢
        rw [(sp_ok hc hvl.symm).2, sp_map]
      rw [hsp]
      have hK4 : K ≤ 4096 := by omega
      have hmk := fun W => run_make_row' (P := Tryz.prog) 24 2 (.int .i64 0) 8 Tryz.underlying24 info_i64 rfl .i64 .i64 K (by omega) (by omega) W
      have HF : Hid (∀ k n x, s.L[k]? = some n → s.V[k]? = some x → ∀ j, spF (s.L.take (k + 1)) (s.V.take (k + 1)) j = if j = n then x else spF (s.L.take k) (s.V.take k) j) := hid (fun k n x h1 h2 j => spF_step h1 h2 j)
      have HF0 : Hid (∀ j, spF (s.L.take 0) (s.V.take 0) j = 0) := hid (fun j => rfl)
      have HFe : Hid (∀ k, s.L.length ≤ k → ∀ j, spF (s.L.take k) (s.V.take k) j = spF s.L s.V j) := hid (fun k hk j => by rw [List.take_of_length_le hk, List.take_of_length_le (by omega)])
      have HP : Hid (∀ (k : Nat) (n : Int), s.L[k]? = some n → 0 ≤ n ∧ n < K) := hid (fun k n h => by have h2 := hP.2.2.2 n (List.mem_of_getElem? h); omega)
      have HLL := hid (fun W (h : Below w.heap.size w W) => (ra.1.below h).more h.size)
      have HLV := hid (fun W (h : Below w.heap.size w W) => (ra.2.1.below h).more h.size)
      have HVL := hid hvl
      have t1 : (s.sch == 1) = true := by simpa using h
      have HK := hid hK
      have hll : s.L.length ≤ 100000 := hn.1
      clear p0 p1 p2 p3 hE hm h ra hn hw hc hP hsp d1 d2 hvl hK
      go_enter Tryz.func21, Tryz.ntmps21
      go_wp2_with fail
      have B0 := BoxL.new w [.int .i64 s.sch, .int .i64 s.dim, .slice AL s.L.length cL, .slice AV s.V.length cV, .int .i64 s.scale, .int .i64 s.wide, .slice AE s.lev.length cE, .slice AN s.neg.length cN] 32
      refine (CM.out _ (by go_grown)).mono ?_
      rintro _ w1 ⟨rfl, hb⟩
      have HB1 := hid (B0.below hb (by simp))
      have k1 : Below w.heap.size w w1 := Below.trans (by go_grown) (hb.mono (by simp))
      have hg1 : w.heap.size < w1.heap.size := by have := hb.size; simp at this; omega
      obtain ⟨⟨f0, f1, f2, f3, f4, f5, f6, f7⟩, _⟩ := HB1.out.eight
      clear B0 hb CM
      rw [HK.out] at f1
      go_wp2_with fail
      clear f0 f1 f2 f3 f4 f5 f6 f7
      go_loopw [5, 6, 20] (fun x5 x6 i wr => ∃ k : Nat, k ≤ s.L.length ∧ i = .int .i64 k ∧ wr.rowIs w1.heap.size 2 K (fun j => .int .i64 (spF (s.L.take k) (s.V.take k) (j : Int))) ∧ Below w1.heap.size w1 wr) (fun _ _ i _ => s.L.length - (intOf i).toNat)
      case atStart => exact ⟨0, by omega, rfl, (World.rowIs_made w1 (.int .i64 0) K _).congr (fun j hj => by rw [HF0.out]), by go_grown⟩
      case round =>
        obtain ⟨k, hk, rfl, hrow, hbel⟩ := hrel
        have HR := hid hrow
        clear hmk
        by_cases hlt : k < s.L.length
        · have kw := k1.trans (hbel.mono k1.size)
          obtain ⟨b1, o1, n, rfl, l1, en, c1⟩ := (HLL.out _ kw).at_ hlt
          obtain ⟨b2, o2, x, rfl, l2, ex, c2⟩ := (HLV.out _ kw).at_ (k := k) (by rw [HVL.out]; exact hlt)
          have hlt2 : k < s.V.length := by rw [HVL.out]; exact hlt
          have hn := HP.out k n en
          have HSS := hid (HF.out k n x en ex)
          obtain ⟨m, rfl⟩ := Int.eq_ofNat_of_zero_le hn.1
          have hm : m < K := by omega
          have f1 := hrow.frozen m
          have c3 := hrow.cell hm
          have f3 := (HB1.out.below hbel hg1 3 _ rfl).1
          clear en ex hrow
          go_wp2_with fail
          go_roundw
          case rel =>
            refine ⟨k + 1, by omega, by go_num, ?_, hbel.setCell (Nat.le_refl _) _⟩
            refine World.rowIs.congr (HR.out.set m (.int .i64 x)) fun j hj => ?_
            rw [HSS.out]
            by_cases e : j = m
            · rw [if_pos e, if_pos (by omega)]
            · rw [if_neg e, if_neg (by omega)]
          case measure => simp [intOf]; omega
        · have HE := HFe.out k (by omega)
          have HR2 : Hid (wr.rowIs w1.heap.size 2 K (fun j => .int .i64 (spF s.L s.V (j : Int)))) := hid (HR.out.congr fun j hj => by rw [HE])
          clear hrow HE HR
          go_wp2_with fail
          go_ret2
          have h := own_made (w' := wr) HR2.out (show w.heap.size ≤ w1.heap.size from k1.size) (by unfold maxLen; omega)
          refine ⟨some ⟨w1.heap.size, 0, none⟩, K, ?_, ?_, k1.trans (hbel.mono k1.size)⟩
          · rw [List.length_map, List.length_range]; rfl
          · rw [List.length_map, List.length_range, List.map_map]; exact h
    · obtain ⟨q1, q2⟩ := p2 h
      have CL := hid (fun W (h : Below w.heap.size w W) => show Calls Tryz.prog 44 #[.agg #[.int .i64 s.sch, .int .i64 s.dim, .slice AL s.L.length cL, .slice AV s.V.length cV, .int .i64 s.scale, .int .i64 s.wide, .slice AE s.lev.length cE, .slice AN s.neg.length cN]] W (OwnE 2 .i64 W.heap.size (loqV s) (loqE s) W) from ref_Loosen10 s ⟨AL, cL, AV, cV, AE, cE, AN, cN⟩ hn hw W (ra.on h))
      rw [q2] at CL
      rw [q1]
      obtain ⟨Q, hQ⟩ : ∃ Q, loqV s = Q := ⟨_, rfl⟩
      rw [hQ] at CL ⊢
      have t1 : (s.sch == 1) = false := beq_eq_false_iff_ne.2 (by omega)
      have t2 : (s.sch == 2) = true := by simpa using h
      clear p0 p1 p2 p3 hE hm h ra hn hw q1 q2 hQ
      go_enter Tryz.func21, Tryz.ntmps21
      go_wp2_with fail
      have B0 := BoxL.new w [.int .i64 s.sch, .int .i64 s.dim, .slice AL s.L.length cL, .slice AV s.V.length cV, .int .i64 s.scale, .int .i64 s.wide, .slice AE s.lev.length cE, .slice AN s.neg.length cN] 32
      refine (CM.out _ (by go_grown)).mono ?_
      rintro _ w1 ⟨rfl, hb⟩
      have HB1 := hid (B0.below hb (by simp))
      have k1 : Below w.heap.size w w1 := Below.trans (by go_grown) (hb.mono (by simp))
      have hg1 : w.heap.size < w1.heap.size := by have := hb.size; simp at this; omega
      obtain ⟨⟨f0, f1, f2, f3, f4, f5, f6, f7⟩, _⟩ := HB1.out.eight
      clear B0 hb CM
      go_wp2_with fail
      refine (CL.out _ k1).mono ?_
      rintro _ w2 ⟨A2, c2, rfl, o2, hb2⟩
      have hfin : OwnE 2 .i64 w.heap.size Q 0 w (.returned (.tuple #[.slice A2 Q.length c2, .int .i64 0])) w2 := ⟨A2, c2, rfl, own_base o2 k1.size, k1.trans (hb2.mono k1.size)⟩
      clear o2 hb2 CL HB1 f0 f1 f2 f3 f4 f5 f6 f7
      go_wp2_with fail
      go_ret2
      exact hfin
    · obtain ⟨q1, q2⟩ := p3 h
      have CL := hid (fun W (h : Below w.heap.size w W) => show Calls Tryz.prog 45 #[.agg #[.int .i64 s.sch, .int .i64 s.dim, .slice AL s.L.length cL, .slice AV s.V.length cV, .int .i64 s.scale, .int .i64 s.wide, .slice AE s.lev.length cE, .slice AN s.neg.length cN]] W (OwnE 2 .i64 W.heap.size (lsgV s) (lsgE s) W) from ref_Loosen11 s ⟨AL, cL, AV, cV, AE, cE, AN, cN⟩ hn hw W (ra.on h))
      rw [q2] at CL
      rw [q1]
      obtain ⟨Q, hQ⟩ : ∃ Q, lsgV s = Q := ⟨_, rfl⟩
      rw [hQ] at CL ⊢
      have t1 : (s.sch == 1) = false := beq_eq_false_iff_ne.2 (by omega)
      have t2 : (s.sch == 2) = false := beq_eq_false_iff_ne.2 (by omega)
      have t3 : (s.sch == 3) = true := by simpa using h
      clear p0 p1 p2 p3 hE hm h ra hn hw q1 q2 hQ
      go_enter Tryz.func21, Tryz.ntmps21
      go_wp2_with fail
      have B0 := BoxL.new w [.int .i64 s.sch, .int .i64 s.dim, .slice AL s.L.length cL, .slice AV s.V.length cV, .int .i64 s.scale, .int .i64 s.wide, .slice AE s.lev.length cE, .slice AN s.neg.length cN] 32
      refine (CM.out _ (by go_grown)).mono ?_
      rintro _ w1 ⟨rfl, hb⟩
      have HB1 := hid (B0.below hb (by simp))
      have k1 : Below w.heap.size w w1 := Below.trans (by go_grown) (hb.mono (by simp))
      have hg1 : w.heap.size < w1.heap.size := by have := hb.size; simp at this; omega
      obtain ⟨⟨f0, f1, f2, f3, f4, f5, f6, f7⟩, _⟩ := HB1.out.eight
      clear B0 hb CM
      go_wp2_with fail
      refine (CL.out _ k1).mono ?_
      rintro _ w2 ⟨A2, c2, rfl, o2, hb2⟩
      have hfin : OwnE 2 .i64 w.heap.size Q 0 w (.returned (.tuple #[.slice A2 Q.length c2, .int .i64 0])) w2 := ⟨A2, c2, rfl, own_base o2 k1.size, k1.trans (hb2.mono k1.size)⟩
      clear o2 hb2 CL HB1 f0 f1 f2 f3 f4 f5 f6 f7
      go_wp2_with fail
      go_ret2
      exact hfin
  · have hE : ploE s = 1 := if_neg hm
    have hV : ploV s = [] := if_neg hm
    have hm2 : mayB s = false := by simpa using hm
    rw [hE, hV]
    rw [hm2] at CM
    clear hE hV hm hm2 ra hn hw
    go_enter Tryz.func21, Tryz.ntmps21
    go_wp2_with fail
    refine (CM.out _ (by go_grown)).mono ?_
    rintro _ w1 ⟨rfl, hb⟩
    have k1 : Below w.heap.size w w1 := Below.trans (by go_grown) (hb.mono (by simp))
    go_wp2_with fail
    go_ret2
    exact .nil k1
theorem ref_Left12 {A : Option Addr} {c : Nat} (v : List Int) (uv : ∀ x ∈ v, I64 x) (hl : v.length ≤ 9223372036854775807) (s : SentV) (p : SentP) (hn : lnS 100000 s) (hw : wfS s) (w : World) (rv : Rd (Value.int .i64) w w.heap.size A v) (ra : RdS w w.heap.size s p) :
    Calls Tryz.prog 23 #[.slice A v.length c, encT s p] w (OwnE 2 .i64 w.heap.size (plfV v s) (plfE v s) w) := by
  obtain ⟨AL, cL, AV, cV, AE, cE, AN, cN⟩ := p
  have CL := hid (fun W (h : Below w.heap.size w W) => show Calls Tryz.prog 21 #[.agg #[.int .i64 s.sch, .int .i64 s.dim, .slice AL s.L.length cL, .slice AV s.V.length cV, .int .i64 s.scale, .int .i64 s.wide, .slice AE s.lev.length cE, .slice AN s.neg.length cN]] W (OwnE 2 .i64 W.heap.size (ploV s) (ploE s) W) from ref_Loosen12 s ⟨AL, cL, AV, cV, AE, cE, AN, cN⟩ hn hw W (ra.on h))
  show Calls Tryz.prog 23 #[.slice A v.length c, .agg #[.int .i64 s.sch, .int .i64 s.dim, .slice AL s.L.length cL, .slice AV s.V.length cV, .int .i64 s.scale, .int .i64 s.wide, .slice AE s.lev.length cE, .slice AN s.neg.length cN]] w _
  by_cases he : ploE s = 0
  · have hE : plfE v s = opE (· - ·) v (ploV s) := if_neg (by simp [he])
    have hV : plfV v s = opV (· - ·) v (ploV s) := if_pos he
    rw [hE, hV]
    rw [he] at CL
    have u64 := plo_i64 hw
    have hlp := plo_le s
    obtain ⟨X, hX⟩ : ∃ X, ploV s = X := ⟨_, rfl⟩
    rw [hX] at CL u64 hlp ⊢
    have CS := hid (fun (A' : Option Addr) (c' : Nat) W (h : Below w.heap.size w W) (r : Rd (Value.int .i64) W W.heap.size A' X) => rSub_any (A := A) (B := A') (c := c) (d := c') v X hl (by omega) uv u64 W (rv.on h) r)
    obtain ⟨Q, hQ⟩ : ∃ Q, opV (· - ·) v X = Q := ⟨_, rfl⟩
    obtain ⟨E, hEE⟩ : ∃ E, opE (· - ·) v X = E := ⟨_, rfl⟩
    rw [hQ, hEE] at CS ⊢
    clear hE hV he u64 hX hQ hEE uv rv ra hn hw
    go_enter Tryz.func23, Tryz.ntmps23
    go_wp2_with fail
    refine (CL.out _ (by go_grown)).mono ?_
    rintro _ w1 ⟨A1, c1, rfl, o1, hb⟩
    have k1 : Below w.heap.size w w1 := Below.trans (by go_grown) (hb.mono (by simp))
    have r1 := own_rd o1
    clear o1 hb CL
    go_wp2_with fail
    refine (CS.out _ _ _ k1 r1).mono ?_
    rintro _ w2 ⟨A2, c2, rfl, o2, hb2⟩
    have hfin : OwnE 2 .i64 w.heap.size Q E w (.returned (.tuple #[.slice A2 Q.length c2, .int .i64 E])) w2 := ⟨A2, c2, rfl, own_base o2 k1.size, k1.trans (hb2.mono k1.size)⟩
    clear o2 hb2 CS r1
    go_wp2_with fail
    go_ret2
    exact hfin
  · have hE : plfE v s = ploE s := if_pos he
    have hV : plfV v s = [] := if_neg he
    rw [hE, hV]
    obtain ⟨E, hEE⟩ : ∃ E, ploE s = E := ⟨_, rfl⟩
    obtain ⟨X, hX⟩ : ∃ X, ploV s = X := ⟨_, rfl⟩
    rw [hEE, hX] at CL
    rw [hEE] at he ⊢
    have hne : (E != 0) = true := by simpa using he
    clear hE hV he hEE hX uv rv ra hn hw
    go_enter Tryz.func23, Tryz.ntmps23
    go_wp2_with fail
    refine (CL.out _ (by go_grown)).mono ?_
    rintro _ w1 ⟨A1, c1, rfl, o1, hb⟩
    have k1 : Below w.heap.size w w1 := Below.trans (by go_grown) (hb.mono (by simp))
    clear o1 hb CL
    go_wp2_with fail
    go_ret2
    exact .nil k1
theorem ref_Bytes12 (s : SentV) (p : SentP) (hn : lnS 600 s) (hw : wfS s) (w : World) (ra : RdS w w.heap.size s p) :
    Calls Tryz.prog 25 #[encT s p] w fun e w' => e = .returned (.tuple #[.int .i64 ((bodyV s).length : Int), .int .i64 (bodyE s)]) ∧ Below w.heap.size w w' := by
  obtain ⟨AL, cL, AV, cV, AE, cE, AN, cN⟩ := p
  have CB := hid (fun W (h : Below w.heap.size w W) => show Calls Tryz.prog 49 #[.agg #[.int .i64 s.sch, .int .i64 s.dim, .slice AL s.L.length cL, .slice AV s.V.length cV, .int .i64 s.scale, .int .i64 s.wide, .slice AE s.lev.length cE, .slice AN s.neg.length cN]] W (OwnE 5 .u8 W.heap.size (bodyV s) (bodyE s) W) from ref_Body s ⟨AL, cL, AV, cV, AE, cE, AN, cN⟩ hn hw W (ra.on h))
  show Calls Tryz.prog 25 #[.agg #[.int .i64 s.sch, .int .i64 s.dim, .slice AL s.L.length cL, .slice AV s.V.length cV, .int .i64 s.scale, .int .i64 s.wide, .slice AE s.lev.length cE, .slice AN s.neg.length cN]] w _
  obtain ⟨X, hX⟩ : ∃ X, bodyV s = X := ⟨_, rfl⟩
  obtain ⟨E, hE⟩ : ∃ E, bodyE s = E := ⟨_, rfl⟩
  rw [hX, hE] at CB ⊢
  clear hX hE ra hn hw
  go_enter Tryz.func25, Tryz.ntmps25
  go_wp2_with fail
  refine (CB.out _ (by go_grown)).mono ?_
  rintro _ w1 ⟨A1, c1, rfl, o1, hb⟩
  have k1 : Below w.heap.size w w1 := Below.trans (by go_grown) (hb.mono (by simp))
  clear o1 hb CB
  go_wp2_with fail
  go_ret2
  exact ⟨rfl, k1⟩
end Go.Proofs.YtecgbelgoomneaaGreat
