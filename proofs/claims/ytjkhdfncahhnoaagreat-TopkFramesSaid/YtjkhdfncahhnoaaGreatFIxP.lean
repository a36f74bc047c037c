
/- FIxP: texts joined: IxP. -/
import Derived.Test.YtjkhdfncahhnoaaGreatFe
import Derived.Sort.OwnSortedInts
import Derived.Lib.AppendZerosOnto
import Derived.Lib.Walk
import Derived.Lib.SlicesCompact
import Derived.Shelf.Slices.In.SortNone
import Derived.Test.YtjkhdfncahhnoaaGreatFa
/- The program's places: numbers spread and gathered, what is left, lists together. -/
namespace Go.Proofs.YtjkhdfncahhnoaaGreat
open Go.RowKit
set_option maxHeartbeats 400000
set_option maxRecDepth 100000
set_option linter.unusedVariables false
theorem ix_Gather {A B : Option Addr} {c d : Nat} (l v : List Int) (hl : l.length ≤ 100000) (hv : v.length ≤ 9223372036854775807) (w : World) (ra : Rd (Value.int .i64) w w.heap.size A l) (rv : Rd (Value.int .i64) w w.heap.size B v) :
    Calls Tryz.prog 9 #[.slice A l.length c, .slice B v.length d] w (OwnE 2 .i64 w.heap.size (gatV l v) (gatE l v) w) := by
  have CS := hid (ix_stray (v.length : Int) w)
  have CC := hid (fun W h1 h2 => stray_contains (A := A) (c := c) (p := w.heap.size + 1) (q := w.heap.size) (B := w.heap.size) (by omega) (by omega) (by omega) (v.length : Int) l (by omega) W h1 h2)
  have RA := hid ra
  have RV := hid rv
  by_cases h : gatP l v
  · have e1 : gdB (v.length : Int) l = true := decide_eq_true h
    have e2 : gatV l v = l.map fun n => v.getD n.toNat 0 := if_pos (gat_ok.2 h)
    rw [e1] at CC
    rw [gat_ok.2 h, e2]
    have HI : Hid (∀ (k : Nat) (n : Int), l[k]? = some n → 0 ≤ n ∧ n < v.length) := hid (fun k n hn => h.2 n (List.mem_of_getElem? hn))
    have HG : Hid (∀ (k : Nat) (n x : Int), l[k]? = some n → v[n.toNat]? = some x → (l.map fun n => v.getD n.toNat 0).take (k + 1) = (l.map fun n => v.getD n.toNat 0).take k ++ [x]) := hid (fun k n x hn hx => take_snoc (by rw [List.getElem?_map, hn, Option.map_some, getD_of hx]))
    have HGl : Hid ((l.map fun n => v.getD n.toNat 0).length = l.length) := hid (by simp)
    obtain ⟨G, hG⟩ : ∃ G, (l.map fun n => v.getD n.toNat 0) = G := ⟨_, rfl⟩
    rw [hG] at HG HGl ⊢
    obtain ⟨N, hN⟩ : ∃ N, l.length = N := ⟨_, rfl⟩
    have HN := hid hN
    rw [hN] at HGl CC hl ⊢
    have hmk := fun W => run_make_row' (P := Tryz.prog) 22 2 (.int .i64 0) 8 Tryz.underlying22 info_i64 rfl .i64 .i64 N (by omega) (by omega) W
    clear h e1 e2 hG hN ra rv
    go_enter Tryz.func9, Tryz.ntmps9
    go_wp2_with fail
    refine CS.out.mono ?_
    rintro _ w1 ⟨rfl, hk1, hb1⟩
    have C := hid (CC.out w1 (RA.out.below hb1) hk1)
    clear CC CS hk1
    go_wp2_with fail
    refine C.out.mono ?_
    rintro _ w2 ⟨rfl, hb2⟩
    have k2 := hb1.trans hb2
    have hrun := hmk w2
    clear C hb1 hb2 hmk
    go_wp2_with fail
    clear hrun
    have RA2 := hid (RA.out.on k2)
    have RV2 := hid (RV.out.on k2)
    have hks := k2.size
    clear RA RV
    go_loopw [7, 8, 19] (fun x7 x8 i wr => ∃ k : Nat, k ≤ N ∧ i = .int .i64 k ∧ wr.rowIs w2.heap.size 2 N (fun j => .int .i64 ((G.take k).getD j 0)) ∧ Below w2.heap.size w2 wr) (fun _ _ i _ => N - (intOf i).toNat)
    case atStart => exact ⟨0, by omega, rfl, (World.rowIs_made w2 (.int .i64 0) N _).congr (fun j hj => by simp [List.getD]), by go_grown⟩
    case round =>
      obtain ⟨k, hk, rfl, hrow, hbel⟩ := hrel
      have HR := hid hrow
      by_cases hlt : k < N
      · obtain ⟨b1, o1, n, rfl, l1, en, c1⟩ := (RA2.out.below hbel).at_ (k := k) (by rw [HN.out]; exact hlt)
        have hn := HI.out k n en
        obtain ⟨m, rfl⟩ := Int.eq_ofNat_of_zero_le hn.1
        have hmi := hn.2
        have hm : m < v.length := by omega
        obtain ⟨b2, o2, x, rfl, l2, ex, c2⟩ := (RV2.out.below hbel).at_ hm
        have HS := hid (HG.out k m x en (by rw [Int.toNat_natCast]; exact ex))
        have f1 := hrow.frozen k
        have c3 := hrow.cell hlt
        have hgl : (G.take k).length = k := by rw [List.length_take, HGl.out]; omega
        have HL := hid hgl
        clear en ex hrow hn hgl
        go_wp2_with fail
        go_roundw
        case rel =>
          refine ⟨k + 1, by omega, by go_num, ?_, by first | exact hbel.setCell (Nat.le_refl _) _ | exact (hbel.setCell (Nat.le_refl _) _).drew⟩
          refine World.rowIs.congr (HR.out.set k (.int .i64 x)) fun j hj => ?_
          rw [HS.out, getD_snoc, HL.out]
          by_cases e : j = k
          · rw [if_pos e, if_pos (by omega)]
          · rw [if_neg e, if_neg (by omega)]
        case measure => simp [intOf]; omega
      · obtain rfl : k = N := by omega
        clear hrow
        have HR2 : Hid (wr.rowIs w2.heap.size 2 G.length (fun j => .int .i64 (G.getD j 0))) := hid (by
          have h := HR.out
          rw [List.take_of_length_le (by rw [HGl.out]; omega)] at h
          rw [HGl.out]; exact h)
        clear HR
        go_wp2_with fail
        go_ret2
        refine ⟨some ⟨w2.heap.size, 0, none⟩, G.length, by rw [HGl.out]; rfl, own_fill HR2.out hks (by rw [HGl.out]; unfold maxLen; omega), k2.trans (hbel.mono hks)⟩
  · have e1 : gdB (v.length : Int) l = false := decide_eq_false h
    have e2 : gatV l v = [] := if_neg (by rw [gat_no h]; decide)
    rw [e1] at CC
    rw [gat_no h, e2]
    clear h e1 e2 ra rv
    go_enter Tryz.func9, Tryz.ntmps9
    go_wp2_with fail
    refine CS.out.mono ?_
    rintro _ w1 ⟨rfl, hk1, hb1⟩
    have C := hid (CC.out w1 (RA.out.below hb1) hk1)
    clear CC CS hk1
    go_wp2_with fail
    refine C.out.mono ?_
    rintro _ w2 ⟨rfl, hb2⟩
    go_wp2_with fail
    go_ret2
    exact .nil (hb1.trans hb2)
theorem cat_step {ls : List (List Int)} {k : Nat} {x : List Int} (h : ls[k]? = some x) : (ls.take (k + 1)).flatten = (ls.take k).flatten ++ x := by
  rw [List.take_add_one, h, List.flatten_append]
  simp
theorem cat_take (ls : List (List Int)) (k : Nat) : (ls.take k).flatten.length ≤ ls.flatten.length := by
  have h := congrArg List.length (congrArg List.flatten (List.take_append_drop k ls))
  rw [List.flatten_append, List.length_append] at h
  omega
def srtI (zs : List Int) : List Int := zs.mergeSort fun x y => decide (x ≤ y)
theorem ix_sort {A : Option Addr} {c base : Nat} (zs : List Int) (hz : zs.length ≤ 100000) (w : World) (hB : base ≤ w.heap.size) (ho : w.ownsRow base 3 1 (.slice A zs.length c) zs.length (zs.map (Value.int .i64))) :
    Calls Tryz.prog 32 #[.slice A zs.length c] w fun e w' => e = .returned (.tuple #[]) ∧ w'.ownsRow base 3 1 (.slice A zs.length c) zs.length ((srtI zs).map (Value.int .i64)) ∧ Below base w w' := by
  have hlen : (srtI zs).length = zs.length := by unfold srtI; simp
  rcases ho.2 with ⟨he, h0⟩ | ⟨g, cap, cur, he, hg, hh, h1, h2, h3, h4⟩
  · simp only [Value.slice.injEq] at he
    obtain ⟨rfl, _, rfl⟩ := he
    obtain rfl : zs = [] := List.length_eq_zero_iff.1 h0
    refine (Any.slices_Sort_int_none Tryz.lays189 none 0 w).mono ?_
    rintro _ _ ⟨rfl, rfl⟩
    rw [show srtI [] = [] by unfold srtI; simp]
    exact ⟨rfl, own_nil _ _ _, Below.refl _ _⟩
  · simp only [Value.slice.injEq] at he
    obtain ⟨rfl, _, rfl⟩ := he
    rw [Nat.mul_one] at h4
    have hgl := (Array.getElem?_eq_some_iff.1 hh).1
    refine (Tryz.slices_Sort_int g 0 c zs w (holds_of_blockI hh h4) hgl (by omega)).mono ?_
    rintro _ _ ⟨rfl, n, os, rfl⟩
    refine ⟨rfl, ?_, (Below.refl base w).grown (grownBy_sortedI _) hB (fun k hk => by cases hk; exact hg)⟩
    exact ownsRow_sortedI hlen hg hh h1 h2 h3
theorem compact_srt (l : List Int) : risP (Lib.compact (srtI l)) ∧ ∀ x, x ∈ Lib.compact (srtI l) ↔ x ∈ l := by
  have hs : (srtI l).Pairwise (fun a b => a ≤ b) := by
    have := List.pairwise_mergeSort (le := fun x y : Int => decide (x ≤ y)) (fun a b c h1 h2 => by simp at *; omega) (fun a b => by simp; omega) l
    exact List.Pairwise.imp (fun h => by simpa using h) this
  have hm : ∀ x, x ∈ srtI l ↔ x ∈ l := fun x => List.mem_mergeSort
  obtain ⟨z, hz⟩ : ∃ z, srtI l = z := ⟨_, rfl⟩
  rw [hz] at hs hm ⊢
  have hle : ∀ i j, i < j → j < z.length → z.toArray[i]! ≤ z.toArray[j]! := fun i j hij hj => by
    have := List.pairwise_iff_getElem.1 hs i j (by omega) hj hij
    simpa [show i < z.length by omega, hj] using this
  constructor
  · unfold risP Lib.compact Lib.compactUpTo
    rw [List.pairwise_map]
    refine List.Pairwise.imp_of_mem ?_ (List.Pairwise.filter _ List.pairwise_lt_range)
    intro i j hi hj hij
    rw [List.mem_filter, List.mem_range] at hi hj
    have hk := hj.2
    unfold Lib.keeps at hk
    rw [decide_eq_true_eq] at hk
    have hne : z.toArray[j]! ≠ z.toArray[j - 1]! := by rcases hk with h | h; omega; exact h
    have h2 := hle (j - 1) j (by omega) hj.1
    by_cases e : i = j - 1
    · subst e; omega
    · have := hle i (j - 1) (by omega) (by omega)
      omega
  · intro x
    rw [← hm]
    unfold Lib.compact Lib.compactUpTo
    rw [List.mem_map]
    constructor
    · rintro ⟨i, hi, rfl⟩
      rw [List.mem_filter, List.mem_range] at hi
      simp [hi.1]
    · intro hx
      obtain ⟨i, hi, e⟩ := List.getElem_of_mem hx
      have key : ∀ i, i < z.length → z.toArray[i]! = x → ∃ a, a ∈ List.filter (Lib.keeps z.toArray) (List.range z.length) ∧ z.toArray[a]! = x := by
        intro i
        induction i with
        | zero => exact fun h e => ⟨0, by rw [List.mem_filter, List.mem_range]; exact ⟨h, Lib.keeps_lt_one _ _ (by omega)⟩, e⟩
        | succ i ih =>
          intro h e
          by_cases hk : z.toArray[i + 1]! = z.toArray[i]!
          · exact ih (by omega) (by rw [← hk]; exact e)
          · exact ⟨i + 1, by rw [List.mem_filter, List.mem_range]; exact ⟨h, Lib.keeps_pos (by simpa using hk)⟩, e⟩
      exact key i hi (by simp [hi, e])
end Go.Proofs.YtjkhdfncahhnoaaGreat
