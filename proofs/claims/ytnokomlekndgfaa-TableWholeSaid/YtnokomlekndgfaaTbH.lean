
/- The table, by the program. -/
import Derived.Test.YtnokomlekndgfaaTbG
import Derived.Test.YtnokomlekndgfaaBox
import Derived.Deep.MidRow
import Derived.StillTailTactics
namespace Go.Proofs.Ytnokomlekndgfaa
open Go.RowKit
set_option maxHeartbeats 2000000
set_option maxRecDepth 100000
set_option linter.unusedVariables false
/-- The table while it is filled: rows that are so far from each other, the new ones below 'a'. -/
def fillL (far a : Nat) : List Nat := (List.range 17).map fun p => if far = 0 then rowsN.getD p 0 else if p % (2 * far) = 0 ∨ (p % far = 0 ∧ p < a) then rowsN.getD p 0 else 0
theorem fill_len (far a : Nat) : (fillL far a).length = 17 := by unfold fillL; simp
theorem fill_on : ∀ far ∈ [8, 4, 2, 1], ∀ a, a < 16 → a % (2 * far) = far →
    (fillL far a).set a (rootN ((fillL far a).getD (a - far) 0 * (fillL far a).getD (a + far) 0)) = fillL far (a + 2 * far) ∧ (fillL far a).getD (a - far) 0 * (fillL far a).getD (a + far) 0 < 18446744073709551616 ∧ a + far ≤ 16 := by decide +kernel
theorem fill_end : ∀ far ∈ [8, 4, 2, 1], ∀ a, a < 32 → 16 ≤ a → a % (2 * far) = far → fillL far a = fillL (far / 2) (far / 2) := by decide +kernel
theorem fill_first : fillL 8 8 = [1073741824, 0, 0, 0, 0, 0, 0, 0, 0, 0, 0, 0, 0, 0, 0, 0, 536870912] := by decide +kernel
theorem fill_done : fillL 0 0 = rowsN := by decide +kernel
def u64sL (l : List Nat) : List Value := l.map fun (n : Nat) => .int .u64 (n : Int)
theorem u64sL_set (l : List Nat) (k n : Nat) : u64sL (l.set k n) = (u64sL l).set k (.int .u64 (n : Int)) := by unfold u64sL; rw [List.map_set]
theorem u64sL_at {l : List Nat} {k : Nat} (h : k < l.length) : (u64sL l)[k]? = some (.int .u64 ((l.getD k 0 : Nat) : Int)) := by
  unfold u64sL
  rw [List.getElem?_map, List.getD_eq_getElem?_getD, List.getElem?_eq_getElem h]
  rfl
theorem wpList_st17 {P : Program} {ops : Array Oper} {rest : List Oper} {op : Oper} {a : Act} {w : World} {Q : Exit → Act → World → Prop} (hgd : op.guard = none) (ty : TypeId) (x y : Operand) (ho : op.op = .store ty x y)
    (b o : Nat) (cells : Array Value) (hx : a.eval x = .pointer (some ⟨b, o, none⟩)) (hy : a.eval y = .agg cells)
    (ht : w.there b o cells.size) (hi : (P.info? ty).map (·.size) = some cells.size) (h1 : cells.all (·.oneCell') = true)
    (h : ∀ W', Hid (W' = w.setCells b o cells.toList) → wpList P ops Q rest (a.put op.dst undef) W') : wpList P ops Q (op :: rest) a w :=
  wpList_store_mid hgd ty x y ho b o cells hx hy ht hi h1 (h _ (hid rfl))
theorem box_there17 {w : World} {k n : Nat} {vs : List Value} (hb : BoxL w k vs) (h : n ≤ vs.length) : w.there k 0 n := fun j hj => by
  have hv := hb (0 + j) _ (List.getElem?_eq_getElem (by omega))
  exact ⟨by rw [hv.1]; rfl, hv.2⟩
theorem box_all {w : World} {k : Nat} {vs us : List Value} (hb : BoxL w k vs) (h : us.length = vs.length) : BoxL (w.setCells k 0 us) k us := fun j v hv => by
  have hj : j < us.length := (List.getElem?_eq_some_iff.1 hv).1
  have hs : ∀ j, j < us.length → (w.cell? ⟨k, 0 + j, none⟩).isSome = true := fun j hj => by
    have := hb (0 + j) _ (List.getElem?_eq_getElem (by omega))
    rw [this.1]; rfl
  refine ⟨?_, ?_⟩
  · have := World.cell?_setCells_in k us 0 w hs j hj
    rw [Nat.zero_add] at this
    rw [this, ← hv, List.getElem?_eq_getElem hj]
  · rw [World.frozen?_setCells]
    exact (hb j _ (List.getElem?_eq_getElem (by omega))).2
theorem box_far {w : World} {g k : Nat} {vs us : List Value} (hb : BoxL w g vs) (h : g ≠ k) : BoxL (w.setCells k 0 us) g vs := fun j v hv => by
  have h2 := hb j v hv
  refine ⟨?_, ?_⟩
  · rw [World.cell?_setCells_out k us 0 w ⟨g, j, none⟩ (fun e => absurd e h)]
    exact h2.1
  · rw [World.frozen?_setCells]
    exact h2.2
theorem below_cellsO {B k : Nat} {w : World} (hk : B ≤ k) : ∀ (us : List Value) (o : Nat) (w' : World), Below B w w' → Below B w (w'.setCells k o us)
  | [], _, _, h => h
  | u :: us, o, w', h => below_cellsO hk us (o + 1) _ (h.setCell (p := ⟨k, o, none⟩) hk u)
theorem below_cells {B k : Nat} {w w' : World} {us : List Value} (h : Below B w w') (hk : B ≤ k) : Below B w (w'.setCells k 0 us) := below_cellsO hk us 0 w' h
theorem rows_cells : u64sL rowsN = [.int .u64 1073741824, .int .u64 1028218692, .int .u64 984625593, .int .u64 942880698, .int .u64 902905650, .int .u64 864625412, .int .u64 827968131, .int .u64 792864998, .int .u64 759250124, .int .u64 727060409, .int .u64 696235433, .int .u64 666717334, .int .u64 638450707, .int .u64 611382491, .int .u64 585461880, .int .u64 560640217, .int .u64 536870912] := by simp [u64sL, rowsN]
theorem box_range {w : World} {k : Nat} {vs : List Value} (hb : BoxL w k vs) : w.rangeAt k 0 vs := fun j v hv => by
  rw [Nat.zero_add]
  exact (hb j v hv).1
theorem info_roots : (Try.prog.info? 45).map (·.size) = some 17 := by kernel_rfl
theorem results_cell {P : Program} {fn : Func} {a t : Nat} {tmps : Array Value} {w : World} {v : Value} {p : Addr} (hf : fn.results = #[.cell a t]) (ht : tmps.getD a undef = .pointer (some p))
    (hl : (loadVar t p).run P w = .ok v w) : (results fn tmps).run P w = .ok v w := by
  have ht' : tmps[a]?.getD undef = Value.pointer (some p) := by rw [← ht]; simp
  have e : results fn tmps = loadVar t p := by
    unfold results
    rw [hf]
    simp [ht', asAddr]
  rw [e, hl]
/-- The table's cells. -/
theorem tb_makeRows (w : World) :
    Calls Try.prog 24 #[] w fun e w' => e = .returned (.agg #[.int .u64 1073741824, .int .u64 1028218692, .int .u64 984625593, .int .u64 942880698, .int .u64 902905650, .int .u64 864625412, .int .u64 827968131, .int .u64 792864998, .int .u64 759250124, .int .u64 727060409, .int .u64 696235433, .int .u64 666717334, .int .u64 638450707, .int .u64 611382491, .int .u64 585461880, .int .u64 560640217, .int .u64 536870912]) ∧ Below w.heap.size w w' := by
  obtain ⟨w2, hw2⟩ : ∃ w2, (w.alloc (.cells #[.int .u64 0, .int .u64 0, .int .u64 0, .int .u64 0, .int .u64 0, .int .u64 0, .int .u64 0, .int .u64 0, .int .u64 0, .int .u64 0, .int .u64 0, .int .u64 0, .int .u64 0, .int .u64 0, .int .u64 0, .int .u64 0, .int .u64 0] 45)).alloc (.cells #[.int .u64 0, .int .u64 0, .int .u64 0, .int .u64 0, .int .u64 0, .int .u64 0, .int .u64 0, .int .u64 0, .int .u64 0, .int .u64 0, .int .u64 0, .int .u64 0, .int .u64 0, .int .u64 0, .int .u64 0, .int .u64 0, .int .u64 0] 45) = w2 := ⟨_, rfl⟩
  have hb2 : Below w.heap.size w w2 := by rw [← hw2]; go_grown
  have f2 : BoxL w2 (w.heap.size + 1) [.int .u64 0, .int .u64 0, .int .u64 0, .int .u64 0, .int .u64 0, .int .u64 0, .int .u64 0, .int .u64 0, .int .u64 0, .int .u64 0, .int .u64 0, .int .u64 0, .int .u64 0, .int .u64 0, .int .u64 0, .int .u64 0, .int .u64 0] := by
    rw [← hw2]
    have := BoxL.new (w.alloc (.cells #[.int .u64 0, .int .u64 0, .int .u64 0, .int .u64 0, .int .u64 0, .int .u64 0, .int .u64 0, .int .u64 0, .int .u64 0, .int .u64 0, .int .u64 0, .int .u64 0, .int .u64 0, .int .u64 0, .int .u64 0, .int .u64 0, .int .u64 0] 45)) [.int .u64 0, .int .u64 0, .int .u64 0, .int .u64 0, .int .u64 0, .int .u64 0, .int .u64 0, .int .u64 0, .int .u64 0, .int .u64 0, .int .u64 0, .int .u64 0, .int .u64 0, .int .u64 0, .int .u64 0, .int .u64 0, .int .u64 0] 45
    rwa [World.size_alloc] at this
  have f1 : BoxL w2 w.heap.size [.int .u64 0, .int .u64 0, .int .u64 0, .int .u64 0, .int .u64 0, .int .u64 0, .int .u64 0, .int .u64 0, .int .u64 0, .int .u64 0, .int .u64 0, .int .u64 0, .int .u64 0, .int .u64 0, .int .u64 0, .int .u64 0, .int .u64 0] := by
    rw [← hw2]
    exact (BoxL.new w [.int .u64 0, .int .u64 0, .int .u64 0, .int .u64 0, .int .u64 0, .int .u64 0, .int .u64 0, .int .u64 0, .int .u64 0, .int .u64 0, .int .u64 0, .int .u64 0, .int .u64 0, .int .u64 0, .int .u64 0, .int .u64 0, .int .u64 0] 45).below ((Below.refl _ _).alloc (Nat.le_refl _) _) (by simp)
  have F1 := hid f1
  have F2 := hid f2
  clear f1 f2
  go_enter Try.func24, Try.ntmps24
  go_wp2_with (refine wpList_st17 rfl 45 _ _ rfl (w.heap.size + 1) 0 #[.int .u64 1073741824, .int .u64 0, .int .u64 0, .int .u64 0, .int .u64 0, .int .u64 0, .int .u64 0, .int .u64 0, .int .u64 0, .int .u64 0, .int .u64 0, .int .u64 0, .int .u64 0, .int .u64 0, .int .u64 0, .int .u64 0, .int .u64 536870912] rfl rfl (box_there17 F2.out (by decide)) info_roots (by simp [Value.oneCell']) ?_)
  intro w3 HW3
  have F3 : Hid (BoxL w3 (w.heap.size + 1) (u64sL (fillL 8 8))) := hid (by rw [fill_first, HW3.out]; exact box_all F2.out (by decide))
  have F0 : Hid (BoxL w3 w.heap.size [.int .u64 0, .int .u64 0, .int .u64 0, .int .u64 0, .int .u64 0, .int .u64 0, .int .u64 0, .int .u64 0, .int .u64 0, .int .u64 0, .int .u64 0, .int .u64 0, .int .u64 0, .int .u64 0, .int .u64 0, .int .u64 0, .int .u64 0]) := hid (by rw [HW3.out]; exact box_far F1.out (by omega))
  have hb3 : Below w.heap.size w w3 := by rw [HW3.out]; exact below_cells hb2 (by omega)
  have HB3 := hid hb3
  clear hw2 hb2 F1 F2 HW3 hb3
  go_wp2_with fail
  go_loopw [2, 3] (fun xs xa wr => ∃ far : Nat, far ∈ [8, 4, 2, 1, 0] ∧ xs = .int .i64 (far : Int) ∧ BoxL wr (w.heap.size + 1) (u64sL (fillL far far)) ∧ BoxL wr w.heap.size [.int .u64 0, .int .u64 0, .int .u64 0, .int .u64 0, .int .u64 0, .int .u64 0, .int .u64 0, .int .u64 0, .int .u64 0, .int .u64 0, .int .u64 0, .int .u64 0, .int .u64 0, .int .u64 0, .int .u64 0, .int .u64 0, .int .u64 0] ∧ Below w.heap.size w wr) (fun xs _ _ => (intOf xs).toNat)
  case atStart => exact ⟨8, by decide, rfl, F3.out, F0.out, HB3.out⟩
  case round =>
    obtain ⟨far, hmem, rfl, g2, g1, hbr⟩ := hrel
    have G1 := hid g1
    have HBR := hid hbr
    clear F3 F0 HB3 g1 hbr
    by_cases h0 : far = 0
    · subst h0
      rw [fill_done, rows_cells] at g2
      have G2 := hid g2
      clear g2 hmem
      go_wp2_with (first | refine wpList_load_mid rfl 45 _ rfl (w.heap.size + 1) 0 rfl [.int .u64 1073741824, .int .u64 1028218692, .int .u64 984625593, .int .u64 942880698, .int .u64 902905650, .int .u64 864625412, .int .u64 827968131, .int .u64 792864998, .int .u64 759250124, .int .u64 727060409, .int .u64 696235433, .int .u64 666717334, .int .u64 638450707, .int .u64 611382491, .int .u64 585461880, .int .u64 560640217, .int .u64 536870912] _ (box_range G2.out) Try.underlying45 rfl info_roots ?_ | refine wpList_st17 rfl 45 _ _ rfl w.heap.size 0 #[.int .u64 1073741824, .int .u64 1028218692, .int .u64 984625593, .int .u64 942880698, .int .u64 902905650, .int .u64 864625412, .int .u64 827968131, .int .u64 792864998, .int .u64 759250124, .int .u64 727060409, .int .u64 696235433, .int .u64 666717334, .int .u64 638450707, .int .u64 611382491, .int .u64 585461880, .int .u64 560640217, .int .u64 536870912] rfl rfl (box_there17 G1.out (by decide)) info_roots (by simp [Value.oneCell']) ?_)
      intro w5 HW5
      have K : BoxL w5 w.heap.size [.int .u64 1073741824, .int .u64 1028218692, .int .u64 984625593, .int .u64 942880698, .int .u64 902905650, .int .u64 864625412, .int .u64 827968131, .int .u64 792864998, .int .u64 759250124, .int .u64 727060409, .int .u64 696235433, .int .u64 666717334, .int .u64 638450707, .int .u64 611382491, .int .u64 585461880, .int .u64 560640217, .int .u64 536870912] := by rw [HW5.out]; exact box_all G1.out (by decide)
      have KB : Below w.heap.size w w5 := by rw [HW5.out]; exact below_cells HBR.out (Nat.le_refl _)
      have hl := run_loadVar_mid (P := Try.prog) w5 w.heap.size 0 45 [.int .u64 1073741824, .int .u64 1028218692, .int .u64 984625593, .int .u64 942880698, .int .u64 902905650, .int .u64 864625412, .int .u64 827968131, .int .u64 792864998, .int .u64 759250124, .int .u64 727060409, .int .u64 696235433, .int .u64 666717334, .int .u64 638450707, .int .u64 611382491, .int .u64 585461880, .int .u64 560640217, .int .u64 536870912] _ (box_range K) Try.underlying45 rfl info_roots
      clear G1 G2 HW5
      have HK := hid KB
      clear K KB
      go_wp2_with fail
      refine bodyPost_ret (v := .agg #[.int .u64 1073741824, .int .u64 1028218692, .int .u64 984625593, .int .u64 942880698, .int .u64 902905650, .int .u64 864625412, .int .u64 827968131, .int .u64 792864998, .int .u64 759250124, .int .u64 727060409, .int .u64 696235433, .int .u64 666717334, .int .u64 638450707, .int .u64 611382491, .int .u64 585461880, .int .u64 560640217, .int .u64 536870912]) (results_cell rfl rfl hl) rfl ⟨rfl, HK.out⟩
    · have hm4 : far ∈ [8, 4, 2, 1] := by simp at hmem ⊢; omega
      have hfar : 1 ≤ far ∧ far ≤ 8 := by simp at hm4; omega
      have HM := hid hm4
      have G2 := hid g2
      obtain ⟨f1, f2⟩ := hfar
      have hfp : 0 < far := by omega
      clear hmem hm4 g2
      go_wp2_with fail
      go_loopw [3] (fun xa wr => ∃ a : Nat, a < 32 ∧ a % (2 * far) = far ∧ xa = .int .i64 (a : Int) ∧ BoxL wr (w.heap.size + 1) (u64sL (fillL far a)) ∧ BoxL wr w.heap.size [.int .u64 0, .int .u64 0, .int .u64 0, .int .u64 0, .int .u64 0, .int .u64 0, .int .u64 0, .int .u64 0, .int .u64 0, .int .u64 0, .int .u64 0, .int .u64 0, .int .u64 0, .int .u64 0, .int .u64 0, .int .u64 0, .int .u64 0] ∧ Below w.heap.size w wr) (fun xa _ => 32 - (intOf xa).toNat)
      case atStart => exact ⟨far, by omega, Nat.mod_eq_of_lt (by omega), rfl, G2.out, G1.out, HBR.out⟩
      case round =>
        obtain ⟨a, ha, hmod, rfl, g2, g1, hbr⟩ := hrel
        have G1 := hid g1
        have G2 := hid g2
        have HBR := hid hbr
        clear g1 hbr
        by_cases hlt : a < 16
        · obtain ⟨s1, s2, hup⟩ := fill_on far HM.out a hlt hmod
          have hle : far ≤ a := by rw [← hmod]; exact Nat.mod_le _ _
          obtain ⟨b, hb⟩ : ∃ b, a - far = b := ⟨_, rfl⟩
          obtain ⟨d, hd⟩ : ∃ d, a + far = d := ⟨_, rfl⟩
          have q1 := g2 b _ (u64sL_at (by rw [fill_len]; omega))
          have q2 := g2 d _ (u64sL_at (by rw [fill_len]; omega))
          have q3 := g2 a _ (u64sL_at (by rw [fill_len]; omega))
          have t1 : IntKind.i64.wrap ((a : Int) - (far : Int)) = (b : Int) := by rw [IntKind.wrap_i64]; omega
          have t2 : IntKind.i64.wrap ((a : Int) + (far : Int)) = (d : Int) := by rw [IntKind.wrap_i64]; omega
          rw [hb, hd] at s1 s2
          obtain ⟨x, hx⟩ : ∃ x, (fillL far a).getD b 0 = x := ⟨_, rfl⟩
          obtain ⟨y, hy⟩ : ∃ y, (fillL far a).getD d 0 = y := ⟨_, rfl⟩
          obtain ⟨v, hv⟩ : ∃ v, (fillL far a).getD a 0 = v := ⟨_, rfl⟩
          rw [hx, hy] at s1 s2
          rw [hx] at q1
          rw [hy] at q2
          rw [hv] at q3
          obtain ⟨Z, hZ⟩ : ∃ Z, x * y = Z := ⟨_, rfl⟩
          rw [hZ] at s1 s2
          have t3 : IntKind.u64.wrap ((x : Int) * (y : Int)) = (Z : Int) := by
            rw [show (x : Int) * (y : Int) = ((x * y : Nat) : Int) by simp, hZ, IntKind.wrap_u64]; omega
          have CR := hid (fun W => (tb_Root Z s2 W).mono fun e w' (h : _ ∧ W = w') => (⟨h.1, h.2.symm⟩ : e = .returned (.int .u64 (rootN Z : Int)) ∧ w' = W))
          obtain ⟨r, hr⟩ : ∃ r, rootN Z = r := ⟨_, rfl⟩
          rw [hr] at s1 CR
          have HS := hid s1
          have t4 : IntKind.i64.wrap (2 * (far : Int)) = 2 * (far : Int) := by rw [IntKind.wrap_i64]; omega
          have t5 : IntKind.i64.wrap ((a : Int) + 2 * (far : Int)) = ((a + 2 * far : Nat) : Int) := by rw [IntKind.wrap_i64]; omega
          have HE : Hid (a + 2 * far < 32 ∧ (a + 2 * far) % (2 * far) = far) := hid ⟨by omega, by rw [Nat.add_mod_right]; exact hmod⟩
          have hd17 : (d : Int) < 17 := by omega
          have hb17 : (b : Int) < 17 := by omega
          have ha17 : (a : Int) < 17 := by omega
          obtain ⟨c1, _⟩ := q1
          obtain ⟨c2, _⟩ := q2
          obtain ⟨c3, c4⟩ := q3
          clear s1 s2 g2 hmod hb hd hx hy hv hZ hr hle hup ha
          go_wp2_with fail
          go_still_tail 14, (by kernel_rfl)
          still_call (CR.out _)
          repeat still_step
          refine wpStill_nil ?_
          change wpList _ _ _ _ _ wr.drew
          have GN : Hid (BoxL (wr.drew.setCell ⟨w.heap.size + 1, a, none⟩ (.int .u64 (r : Int))) (w.heap.size + 1) (u64sL (fillL far (a + 2 * far)))) := hid (by rw [← HS.out, u64sL_set]; exact (BoxL.drew G2.out).one (u64sL_at (by rw [fill_len]; omega)) _)
          have GM : Hid (BoxL (wr.drew.setCell ⟨w.heap.size + 1, a, none⟩ (.int .u64 (r : Int))) w.heap.size [.int .u64 0, .int .u64 0, .int .u64 0, .int .u64 0, .int .u64 0, .int .u64 0, .int .u64 0, .int .u64 0, .int .u64 0, .int .u64 0, .int .u64 0, .int .u64 0, .int .u64 0, .int .u64 0, .int .u64 0, .int .u64 0, .int .u64 0]) := hid ((BoxL.drew G1.out).other (by simp) _)
          have GB : Hid (Below w.heap.size w (wr.drew.setCell ⟨w.heap.size + 1, a, none⟩ (.int .u64 (r : Int)))) := hid (HBR.out.drew.setCell (by simp) _)
          have c3' : wr.drew.cell? ⟨w.heap.size + 1, a, none⟩ = some (.int .u64 (v : Int)) := c3
          have c4' : wr.drew.frozen? ⟨w.heap.size + 1, a, none⟩ = false := c4
          generalize wr.drew = w2 at GN GM GB c3' c4' ⊢
          clear c1 c2 c3 c4 G1 G2 HBR
          go_wp2_with fail
          go_roundw
          case rel => exact ⟨a + 2 * far, HE.out.1, HE.out.2, rfl, GN.out, GM.out, GB.out⟩
          case measure => have := HE.out.1; simp [intOf]; omega
        · obtain hge : 16 ≤ a := by omega
          have hE := fill_end far HM.out a ha hge hmod
          have hm := HM.out
          obtain ⟨h, hh, hmem⟩ : ∃ h, far / 2 = h ∧ h ∈ [8, 4, 2, 1, 0] := ⟨_, rfl, by simp at hm ⊢; omega⟩
          rw [hh] at hE
          have t1 : (far : Int) / 2 = (h : Int) := by omega
          have hlth : h < far := by omega
          have HE := hid hE
          have HL := hid hlth
          clear g2 hE hm hh
          go_wp2_with fail
          go_roundw
          case rel => exact ⟨h, hmem, by go_num, by rw [← HE.out]; exact G2.out, G1.out, HBR.out⟩
          case measure => have := HL.out; simp [intOf]; omega
end Go.Proofs.Ytnokomlekndgfaa
