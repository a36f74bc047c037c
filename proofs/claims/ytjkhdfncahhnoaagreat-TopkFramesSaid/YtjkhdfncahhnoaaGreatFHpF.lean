
/- FHpF: texts joined: HpF. -/
import Derived.Test.YtjkhdfncahhnoaaGreatFHpE
/- The library's Push and Pop over the pile. -/
namespace Go.Proofs.YtjkhdfncahhnoaaGreat
open Go.RowKit
set_option maxHeartbeats 400000
set_option maxRecDepth 100000
set_option linter.unusedVariables false
theorem Otr.trans2 {x y z : Nat} {a b c : World} (h : Otr x y a b) (k : Otr x z b c) (hz : z = y ∨ a.heap.size ≤ z) : Otr x y a c :=
  ⟨k.os.trans h.os, k.tape.trans h.tape, k.output.trans h.output, Nat.le_trans h.size k.size, fun i hi h1 h2 => (k.block i (Nat.lt_of_lt_of_le hi h.size) h1 (by omega)).trans (h.block i hi h1 h2)⟩
/-- A heap in a box. -/
def HeapAt (w : World) (B bp : Nat) (d : Array (Nat × Nat)) (g cap : Nat) : Prop := HpOk d d.size ∧ PileAt w B bp g cap d
set_option maxHeartbeats 1000000 in
theorem hp_PushH {B bp g cap : Nat} (d : Array (Nat × Nat)) (x1 x2 : Nat) (hl : d.size < 100000) (w : World) (h : HeapAt w B bp d g cap) (hB : B ≤ w.heap.size) :
    Calls Tryz.prog 53 #[.iface 91 (.pointer (some ⟨bp, 0, none⟩)), .iface 93 (.agg #[.int .i64 (x1 : Int), .int .u64 (x2 : Int)])] w fun e w' => e = .returned (.tuple #[]) ∧
      ∃ g' cap' d', d'.size = d.size + 1 ∧ d'.toList.Perm (d.toList ++ [(x1, x2)]) ∧ HeapAt w' B bp d' g' cap' ∧ Otr bp g w w' ∧ (g' = g ∨ w.heap.size ≤ g') := by
  have C := hid (hp_PushM d x1 x2 hl w h.2 hB)
  have HO := hid h.1
  clear h
  go_enter Tryz.func53, Tryz.ntmps53
  go_wp2_with fail
  refine C.out.mono ?_
  rintro _ w1 ⟨rfl, g1, cap1, h1, ho1, hg1⟩
  have H1 := hid h1
  have b1 := h1.1
  have f1 := h1.2.1
  have HO1 := hid ho1
  have HG1 := hid hg1
  have hsz : (d.push (x1, x2)).size = d.size + 1 := by simp
  have CU := hid (hp_up (d.push (x1, x2)) d.size (by omega) (by omega) (by rw [hsz]; exact hp_push HO.out _) w1 h1)
  have HD : Hid ((d.push (x1, x2)).toList = d.toList ++ [(x1, x2)]) := hid (by simp)
  have m1 := hp_meth0 (nm := "Len") (f := 54) (by kernel_rfl) w1 b1
  clear h1 ho1 hg1 hsz C
  go_wp2_with fail
  refine (hp_Len w1).mono ?_
  rintro _ _ ⟨rfl, rfl⟩
  go_wp2_with fail
  refine CU.out.mono ?_
  rintro _ w2 ⟨rfl, d2, hs, hp, hk, hP, hO⟩
  have HS : Hid (d2.size = d.size + 1) := hid (by rw [hs]; simp)
  have HP := hid hP
  have HO2 := hid hO
  have HK := hid hk
  clear hs hP hO hk
  go_wp2_with fail
  go_end0
  refine ⟨rfl, g1, cap1, d2, HS.out, by rw [← HD.out]; exact hp, ⟨?_, HP.out⟩, HO1.out.trans2 HO2.out HG1.out, HG1.out⟩
  have := HK.out
  rwa [HS.out, ← show (d.push (x1, x2)).size = d.size + 1 by simp]
set_option maxHeartbeats 1000000 in
theorem hp_PopH {B bp g cap n : Nat} (d : Array (Nat × Nat)) (hn : d.size = n + 1) (hl : d.size < 100000) (w : World) (h : HeapAt w B bp d g cap) :
    Calls Tryz.prog 55 #[.iface 91 (.pointer (some ⟨bp, 0, none⟩))] w fun e w' =>
      ∃ (x1 x2 : Nat) (d' : Array (Nat × Nat)), e = .returned (.iface 93 (.agg #[.int .i64 (x1 : Int), .int .u64 (x2 : Int)])) ∧ d'.size = n ∧ ((x1, x2) :: d'.toList).Perm d.toList ∧ (∀ y ∈ d'.toList, beh y (x1, x2) = false) ∧ HeapAt w' B bp d' g cap ∧ Otr bp g w w' := by
  obtain ⟨hO, hP⟩ := h
  have HO := hid hO
  have HP := hid hP
  have b0 := hP.1
  have f0 := hP.2.1
  have HN := hid hn
  have m0 := hp_meth0 (nm := "Len") (f := 54) (by kernel_rfl) w b0
  have CS : Hid (Calls Tryz.prog 141 #[.slice (some ⟨g, 0, none⟩) d.size cap, .int .i64 0, .int .i64 (n : Int)] w fun e w' => e = .returned (.tuple #[]) ∧ RwE w' B g cap (Go.Sort.swp d 0 n) ∧ Otr g g w w') := hid (by
    have := hp_Swap d 0 n (by omega) (by omega) w hP.2.2.1
    rwa [show ((0 : Nat) : Int) = 0 from rfl] at this)
  have mS := hp_meth0 (nm := "Swap") (f := 141) (by kernel_rfl) w b0
  have e1 : IntKind.i64.wrap ((d.size : Int) - 1) = (n : Int) := by rw [IntKind.wrap_i64]; omega
  clear hO hP hn
  go_enter Tryz.func55, Tryz.ntmps55
  go_wp2_with fail
  refine (hp_Len w).mono ?_
  rintro _ _ ⟨rfl, rfl⟩
  go_wp2_with fail
  refine CS.out.mono ?_
  rintro _ w1 ⟨rfl, hr1, ho1⟩
  have hne := HP.out.2.2.2
  have hsz : (Go.Sort.swp d 0 n).size = d.size := Go.Sort.size_swp _ _ _
  have hbk := ho1.block bp HP.out.lt hne hne
  have hP1 : PileAt w1 B bp g cap (Go.Sort.swp d 0 n) := ⟨by rw [hsz]; exact (cell_blk hbk).trans HP.out.1, (froz_blk hbk).trans HP.out.2.1, hr1, hne⟩
  have HO1 : Hid (Otr bp g w w1) := hid (ho1.wide (.inr rfl) (.inr rfl))
  have hnd : n < d.size := by have := HN.out; omega
  have CD := hid (hp_down (Go.Sort.swp d 0 n) n (by omega) (by omega) (hp_lower (by rw [← HN.out]; exact HO.out) hnd) w1 hP1)
  have HPR : Hid ((Go.Sort.swp d 0 n).toList.Perm d.toList) := hid (swp_perm (by omega) hnd)
  have HLA : Hid ((Go.Sort.swp d 0 n)[n]! = d[0]!) := hid (Go.Sort.swp_right d 0 n hnd)
  have HSZ := hid hsz
  clear hr1 ho1 hbk hP1 hsz m0 mS CS b0 f0 e1 hnd
  go_wp2_with fail
  refine CD.out.mono ?_
  rintro _ w2 ⟨⟨r, rfl⟩, d2, hs2, hp2, hk2, hO2, hP2, ho2⟩
  have hs2' : d2.size = n + 1 := by rw [hs2, HSZ.out, HN.out]
  have CP := hid (hp_PopM d2 hs2' w2 hP2)
  have HP2 := hid hp2
  have HK2 := hid (hk2 n (Nat.le_refl _))
  have HO2 := hid hO2
  have HO3 := hid ho2
  have HS2 := hid hs2'
  clear hs2 hp2 hk2 hO2 hP2 ho2 hs2' CD
  go_wp2_with fail
  refine CP.out.mono ?_
  rintro _ w3 ⟨rfl, hP3, ho3⟩
  have HP3 := hid hP3
  have HO4 := hid ho3
  clear hP3 ho3 CP
  go_wp2_with fail
  go_ret
  have hs3 : d2.pop.size = n := by have := HS2.out; simp; omega
  have hl2 : d2.toList = d2.pop.toList ++ [d2[n]!] := by
    have hs := HS2.out
    refine List.ext_getElem? fun i => ?_
    by_cases hi : i < n
    · rw [List.getElem?_append_left (by simp; omega), Array.getElem?_toList, Array.getElem?_toList, Array.getElem?_eq_getElem (by omega), Array.getElem?_eq_getElem (by simp; omega), Array.getElem_pop]
    · rw [List.getElem?_append_right (by simp; omega)]
      by_cases he : i = n
      · subst he
        rw [getElem!_pos d2 i (by omega), Array.getElem?_toList, Array.getElem?_eq_getElem (by omega)]
        simp [hs]
      · rw [List.getElem?_eq_none (by simp; omega), List.getElem?_eq_none (by simp; omega)]
  have hx : d2[n]! = d[0]! := HK2.out.trans HLA.out
  have hpp : ((d2[n]!.1, d2[n]!.2) :: d2.pop.toList).Perm d.toList := by
    have h1 : (d2[n]! :: d2.pop.toList).Perm d2.toList := by
      rw [hl2]
      exact (List.perm_append_comm (l₁ := d2.pop.toList) (l₂ := [d2[n]!])).symm
    exact h1.trans (HP2.out.trans HPR.out)
  refine ⟨d2[n]!.1, d2[n]!.2, d2.pop, rfl, hs3, hpp, fun y hy => ?_, ⟨fun i i0 hi => ?_, HP3.out⟩, (HO1.out.trans HO3.out).trans HO4.out⟩
  · have hy2 := hpp.mem_iff.1 (List.mem_cons_of_mem _ hy)
    obtain ⟨i, hi, rfl⟩ := List.mem_iff_getElem.1 hy2
    have hi' : i < d.size := by simpa using hi
    have := hp_top HO.out i hi'
    rw [getElem!_pos d i hi'] at this
    show beh _ d2[n]! = false
    rw [hx, Array.getElem_toList]
    exact this
  · rw [hs3] at hi
    rw [pop_get (by have := HS2.out; omega), pop_get (by have := HS2.out; omega)]
    exact HO2.out i i0 hi
end Go.Proofs.YtjkhdfncahhnoaaGreat
