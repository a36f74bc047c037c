
/-
  PressRounds answers true for every input. No condition.
-/
import Derived.Test.YtecgbelgoomneaaGreatYi
import Derived.Test.YtecgbelgoomneaaGreatYe
import Derived.Test.YtecgbelgoomneaaGreatYc
namespace Go.Proofs.YtecgbelgoomneaaGreat.PressRounds
open Go.ChangeShapes Go.WideShapes Go.ChangeAt Go.RowKit
set_option maxHeartbeats 400000
set_option linter.unusedVariables false
open Go.Proofs.YtecgbelgoomneaaGreat
/-- A list that lies in neither of two blocks. -/
def RdN (p q : Nat) (w : World) (A : Option Addr) (xs : List Int) : Prop := Rd (Value.int .i64) w w.heap.size A xs ∧ ∀ b off, A = some ⟨b, off, none⟩ → b ≠ p ∧ b ≠ q
theorem RdN.on {p q : Nat} {w w' : World} {A : Option Addr} {xs : List Int} (h : RdN p q w A xs) (hb : Below w.heap.size w w') : RdN p q w' A xs := ⟨h.1.on hb, h.2⟩
theorem RdN.set {p q : Nat} {w : World} {A : Option Addr} {xs : List Int} (h : RdN p q w A xs) {a : Addr} (ha : a.block = p ∨ a.block = q) (u : Value) : RdN p q (w.setCell a u) A xs := by
  refine ⟨fun k x hx => ?_, h.2⟩
  obtain ⟨b, off, e, hl, hc⟩ := h.1 k x hx
  obtain ⟨n1, n2⟩ := h.2 b off e
  refine ⟨b, off, e, by simpa using hl, ?_⟩
  rw [World.cell?_setCell_other _ _ _ _ (by rintro rfl; rcases ha with ha | ha; exact n1 ha; exact n2 ha)]
  exact hc
theorem RdN.drew {p q : Nat} {w : World} {A : Option Addr} {xs : List Int} (h : RdN p q w A xs) : RdN p q w.drew A xs := h
theorem rdn_own {p q base c : Nat} {w : World} {A : Option Addr} {xs : List Int} {e : TypeId} (h : w.ownsRow base e 1 (.slice A xs.length c) xs.length (xs.map (Value.int .i64))) (hp : p < base) (hq : q < base) : RdN p q w A xs := by
  refine ⟨own_rd h, fun b off e => ?_⟩
  subst e
  rcases h.2 with ⟨he, _⟩ | ⟨g, cap, cur, he, hg, _⟩
  · simp at he
  · simp only [Value.slice.injEq, Option.some.injEq, Addr.mk.injEq] at he
    omega
theorem take_one2 {α : Type} {v : List α} {k : Nat} {x : α} (hx : v[k]? = some x) : v.take (k + 1) = v.take k ++ [x] := by
  rw [List.take_add_one, hx]
  rfl
theorem zeros_rd {w1 W : World} {m : Nat} {p q : Nat} (h : W.rowIs w1.heap.size 2 m (fun _ => .int .i64 0)) (hm : m ≤ 140737488355327) (hp : w1.heap.size ≠ p) (hq : w1.heap.size ≠ q) : RdN p q W (some ⟨w1.heap.size, 0, none⟩) (List.replicate m (0 : Int)) := by
  have h2 := own_made (B := w1.heap.size) (w' := w1) h (Nat.le_refl _) (by unfold maxLen; omega)
  refine ⟨own_rd (base := w1.heap.size) (e := 2) (c := m) ?_, fun b off e => by simp at e; omega⟩
  rw [List.length_replicate, List.map_replicate]
  have e : ((List.range m).map fun _ => Value.int IntKind.i64 0) = List.replicate m (Value.int .i64 0) := by
    rw [List.map_const']
    simp
  rw [e] at h2
  exact h2
theorem rd_ln (sch k wide : Int) (g l : List Int) (s : Nat) (n : List Int) : lnS 100000 (prdS sch k wide g l s n) := by
  unfold prdS
  split
  · exact (pp_ln sch k wide _ s n).more (by decide)
  · exact ln_zero _
theorem rnd_step {S L A x r v : Int} (h : wrap64 (S + L) = A) (h2 : x + r = v + L) : wrap64 (wrap64 (S + x) + r) = wrap64 (A + v) := round_sum h h2
set_option maxHeartbeats 8000000 in
set_option maxRecDepth 100000 in
theorem walk (Al : Option Addr) (l : List (Int × Int × Int)) (cl : Nat) (Ag : Option Addr) (g : List (List Int)) (cg : Nat) (seed : Int) (w : World)
    (rl : RdH w w.heap.size Al l) (il : ∀ h ∈ l, I64 h.1 ∧ I64 h.2.1 ∧ I64 h.2.2) (ll : l.length ≤ cl) (ml : cl ≤ 9223372036854775807) (rg : RdRows w w.heap.size Ag g) (ig : ∀ u ∈ g, I64s u ∧ u.length ≤ 9223372036854775807) (lg : g.length ≤ cg) (mg : cg ≤ 9223372036854775807) (us : U64 seed) :
    Calls Tryz.prog 6 #[.slice Al l.length cl, .slice Ag g.length cg, .int .u64 seed] w fun e w' => e = .returned (.bool true) ∧ Below w.heap.size w w' := by
  have HH := hid rl
  have HIL := hid il
  have HG := hid rg
  obtain ⟨sd, rfl⟩ := Int.eq_ofNat_of_zero_le us.1
  have hsd : sd < 2 ^ 64 := by have := us.2; omega
  have CF := hid (fun W (h : Below w.heap.size w W) => pf_any none 0 0 (by decide) Ag cg g (by omega) (fun u hu => (ig u hu).2) W (B := w.heap.size) (rg.below h))
  by_cases hf : fewP 0 g = true
  · rw [hf] at CF
    by_cases h0 : g.length = 0
    · have t1 : ((g.length : Int) == 0) = true := by simpa using h0
      have t2 : (g.length == 0) = true := by simpa using h0
      clear hf rl rg il ig h0
      go_enter Tryz.func6, Tryz.ntmps6
      go_wp2_with fail
      refine (ps_live _).mono ?_
      rintro _ w1 ⟨rfl, k1⟩
      go_wp2_with fail
      refine (CF.out w1 k1).mono ?_
      rintro _ _ ⟨rfl, rfl⟩
      clear CF
      go_wp2_with fail
      go_ret
      exact ⟨rfl, k1⟩
    · obtain ⟨hf1, _, hf3⟩ := fewP_ok.1 hf
      have h0' : 0 < g.length := by omega
      obtain ⟨g0, hg0⟩ : ∃ u, g[0]? = some u := ⟨_, List.getElem?_eq_getElem h0'⟩
      obtain ⟨b0, o0, A0, c0, rfl, l0, d0, r0⟩ := rg 0 g0 hg0
      obtain ⟨m, hm⟩ : ∃ m, g0.length = m := ⟨_, rfl⟩
      have hm5 : m ≤ 5000 := by have h := hf1 g0 (List.mem_of_getElem? hg0); unfold shP at h; omega
      rw [hm, Nat.add_zero] at d0
      have HROW := hid (show ∀ (k : Nat) (u : List Int), g[k]? = some u → ∃ A' c', w.cell? ⟨b0, o0 + k, none⟩ = some (.slice A' u.length c') ∧ Rd (Value.int .i64) w w.heap.size A' u from fun k u hu => by
        obtain ⟨b, off, A', c', e, hl, hc, hr⟩ := rg k u hu
        injection e with e
        injection e with e1 e2
        subst e1 e2
        exact ⟨A', c', hc, hr⟩)
      have D0 := hid d0
      have L0 := hid l0
      have HIG := hid ig
      have hmk := fun W => run_make_row' (P := Tryz.prog) 24 2 (.int .i64 0) 8 Tryz.underlying24 info_i64 rfl .i64 .i64 m (by omega) (by omega) W
      have t1 : ((g.length : Int) == 0) = false := beq_eq_false_iff_ne.2 (by omega)
      have t2 : (g.length == 0) = false := beq_eq_false_iff_ne.2 (by omega)
      clear hf hf1 r0 rl rg ig d0 l0 hg0 us il hm
      go_enter Tryz.func6, Tryz.ntmps6
      go_wp2_with fail
      refine (ps_live _).mono ?_
      rintro _ w1 ⟨rfl, k1⟩
      go_wp2_with fail
      refine (CF.out w1 k1).mono ?_
      rintro _ _ ⟨rfl, rfl⟩
      clear CF
      have D1 := hid (show w1.cell? ⟨b0, o0, none⟩ = some (.slice A0 m c0) by rw [k1.cell (p := ⟨b0, o0, none⟩) L0.out]; exact D0.out)
      go_wp2_with fail
      go_loop [39] (fun i => ∃ k : Nat, k ≤ g.length ∧ i = .int .i64 k ∧ ∀ u ∈ g.take k, u.length = m ∧ ∀ x ∈ u, -1099511627776 ≤ x ∧ x ≤ 1099511627776) (fun i => g.length - (intOf i).toNat)
      case atStart => exact ⟨0, by omega, rfl, by simp⟩
      case round =>
        obtain ⟨k, hk, rfl, hs⟩ := hrel
        have HS := hid hs
        clear hs
        by_cases hlt : k < g.length
        · obtain ⟨u, hu⟩ : ∃ u, g[k]? = some u := ⟨_, List.getElem?_eq_getElem hlt⟩
          obtain ⟨A1, c1, d1, r1⟩ := HROW.out k u hu
          have HT := hid (take_one2 hu)
          have lu := (HIG.out u (List.mem_of_getElem? hu)).2
          have d2 : w1.cell? ⟨b0, o0 + k, none⟩ = some (.slice A1 u.length c1) := by rw [k1.cell (p := ⟨b0, o0 + k, none⟩) L0.out]; exact d1
          have d3 := D1.out
          have R1 := hid (r1.on k1)
          clear d1 r1 hu
          by_cases hul : u.length = m
          · have t3 : ((m : Int) != (m : Int)) = false := by simp
            rw [hul] at d2 lu
            have HUL := hid hul
            clear hul
            go_wp2_with fail
            clear d2 d3
            go_loop [53] (fun i => ∃ j : Nat, j ≤ m ∧ i = .int .i64 j ∧ ∀ x ∈ u.take j, -1099511627776 ≤ x ∧ x ≤ 1099511627776) (fun i => m - (intOf i).toNat)
            case atStart => exact ⟨0, by omega, rfl, by simp⟩
            case round =>
              obtain ⟨j, hj, rfl, hs2⟩ := hrel
              have HS2 := hid hs2
              clear hs2
              by_cases hjl : j < m
              · obtain ⟨b2, o2, x, rfl, l2, ex, e2⟩ := R1.out.at_ (k := j) (by rw [HUL.out]; exact hjl)
                have HX := hid (take_one2 ex)
                clear ex
                by_cases h1 : x > 1099511627776
                · go_wp2_with fail
                  go_ret
                  exact ⟨rfl, k1⟩
                · by_cases h2 : x < -1099511627776
                  · go_wp2_with fail
                    go_ret
                    exact ⟨rfl, k1⟩
                  · go_wp2_with fail
                    go_round
                    case rel =>
                      refine ⟨j + 1, by omega, by go_num, ?_⟩
                      intro y hy
                      rw [HX.out] at hy
                      rcases List.mem_append.1 hy with h | h
                      · exact HS2.out y h
                      · simp at h; subst h; omega
                    case measure => simp [intOf]; omega
              · obtain rfl : j = m := by omega
                go_wp2_with fail
                go_round
                case rel =>
                  refine ⟨k + 1, by omega, by go_num, ?_⟩
                  intro y hy
                  rw [HT.out] at hy
                  rcases List.mem_append.1 hy with h | h
                  · exact HS.out y h
                  · simp at h
                    subst h
                    exact ⟨HUL.out, by have h := HS2.out; rw [List.take_of_length_le (by rw [HUL.out]; exact Nat.le_refl _)] at h; exact h⟩
                case measure => simp [intOf]; omega
          · have t3 : ((u.length : Int) != (m : Int)) = true := by simp; omega
            have t4 : (u.length != m) = true := by simpa using hul
            go_wp2_with fail
            go_ret
            exact ⟨rfl, k1⟩
        · obtain rfl : k = g.length := by omega
          have HA := hid (show ∀ u ∈ g, u.length = m ∧ ∀ x ∈ u, -1099511627776 ≤ x ∧ x ≤ 1099511627776 by have h := HS.out; rw [List.take_length] at h; exact h)
          clear HS
          have gA : Below w1.heap.size w1 (w1.alloc (Obj.cells (madeCells #[Value.int IntKind.i64 0] m) 2)) := sg_up _ _
          have gB : Below w1.heap.size w1 ((w1.alloc (Obj.cells (madeCells #[Value.int IntKind.i64 0] m) 2)).alloc (Obj.cells (madeCells #[Value.int IntKind.i64 0] m) 2)) := gA.trans ((sg_up _ _).mono gA.size)
          have gC : Below w1.heap.size w1 (((w1.alloc (Obj.cells (madeCells #[Value.int IntKind.i64 0] m) 2)).alloc (Obj.cells (madeCells #[Value.int IntKind.i64 0] m) 2)).alloc (Obj.cells (madeCells #[Value.int IntKind.i64 0] m) 2)) := gB.trans ((sg_up _ _).mono gB.size)
          have d3 := D1.out
          have lb1 : b0 < w1.heap.size := by have := L0.out; have := k1.size; omega
          have d4 : (w1.alloc (Obj.cells (madeCells #[Value.int IntKind.i64 0] m) 2)).cell? ⟨b0, o0, none⟩ = some (.slice A0 m c0) := by rw [gA.cell (p := ⟨b0, o0, none⟩) lb1]; exact d3
          have d5 : ((w1.alloc (Obj.cells (madeCells #[Value.int IntKind.i64 0] m) 2)).alloc (Obj.cells (madeCells #[Value.int IntKind.i64 0] m) 2)).cell? ⟨b0, o0, none⟩ = some (.slice A0 m c0) := by rw [gB.cell (p := ⟨b0, o0, none⟩) lb1]; exact d3
          have sA : (w1.alloc (Obj.cells (madeCells #[Value.int IntKind.i64 0] m) 2)).heap.size = w1.heap.size + 1 := by simp
          have sB : ((w1.alloc (Obj.cells (madeCells #[Value.int IntKind.i64 0] m) 2)).alloc (Obj.cells (madeCells #[Value.int IntKind.i64 0] m) 2)).heap.size = w1.heap.size + 1 + 1 := by simp
          have rA : (w1.alloc (Obj.cells (madeCells #[Value.int IntKind.i64 0] m) 2)).rowIs w1.heap.size 2 m (fun _ => .int .i64 0) := World.rowIs_made w1 (.int .i64 0) m _
          have rB : ((w1.alloc (Obj.cells (madeCells #[Value.int IntKind.i64 0] m) 2)).alloc (Obj.cells (madeCells #[Value.int IntKind.i64 0] m) 2)).rowIs (w1.heap.size + 1) 2 m (fun _ => .int .i64 0) := by have h := World.rowIs_made (w1.alloc (Obj.cells (madeCells #[Value.int IntKind.i64 0] m) 2)) (.int .i64 0) m 2; rw [sA] at h; exact h
          have rC : (((w1.alloc (Obj.cells (madeCells #[Value.int IntKind.i64 0] m) 2)).alloc (Obj.cells (madeCells #[Value.int IntKind.i64 0] m) 2)).alloc (Obj.cells (madeCells #[Value.int IntKind.i64 0] m) 2)).rowIs (w1.heap.size + 1 + 1) 2 m (fun _ => .int .i64 0) := by have h := World.rowIs_made ((w1.alloc (Obj.cells (madeCells #[Value.int IntKind.i64 0] m) 2)).alloc (Obj.cells (madeCells #[Value.int IntKind.i64 0] m) 2)) (.int .i64 0) m 2; rw [sB] at h; exact h
          have RA := hid (show (((w1.alloc (Obj.cells (madeCells #[Value.int IntKind.i64 0] m) 2)).alloc (Obj.cells (madeCells #[Value.int IntKind.i64 0] m) 2)).alloc (Obj.cells (madeCells #[Value.int IntKind.i64 0] m) 2)).rowIs w1.heap.size 2 m (fun _ => .int .i64 0) from (rA.of_block ((sg_up (w1.alloc (Obj.cells (madeCells #[Value.int IntKind.i64 0] m) 2)) (Obj.cells (madeCells #[Value.int IntKind.i64 0] m) 2)).block _ (by rw [sA]; omega))).of_block ((sg_up ((w1.alloc (Obj.cells (madeCells #[Value.int IntKind.i64 0] m) 2)).alloc (Obj.cells (madeCells #[Value.int IntKind.i64 0] m) 2)) (Obj.cells (madeCells #[Value.int IntKind.i64 0] m) 2)).block _ (by rw [sB]; omega)))
          have RB := hid (show (((w1.alloc (Obj.cells (madeCells #[Value.int IntKind.i64 0] m) 2)).alloc (Obj.cells (madeCells #[Value.int IntKind.i64 0] m) 2)).alloc (Obj.cells (madeCells #[Value.int IntKind.i64 0] m) 2)).rowIs (w1.heap.size + 1) 2 m (fun _ => .int .i64 0) from rB.of_block ((sg_up ((w1.alloc (Obj.cells (madeCells #[Value.int IntKind.i64 0] m) 2)).alloc (Obj.cells (madeCells #[Value.int IntKind.i64 0] m) 2)) (Obj.cells (madeCells #[Value.int IntKind.i64 0] m) 2)).block _ (by rw [sB]; omega)))
          have RC := hid rC
          have GC := hid gC
          have SC := hid (show w1.heap.size + 3 ≤ (((w1.alloc (Obj.cells (madeCells #[Value.int IntKind.i64 0] m) 2)).alloc (Obj.cells (madeCells #[Value.int IntKind.i64 0] m) 2)).alloc (Obj.cells (madeCells #[Value.int IntKind.i64 0] m) 2)).heap.size by simp)
          clear gA gB gC rA rB rC sA sB
          go_wp2_with fail
          clear d3 d4 d5 hmk
          go_loopw [12, 83] (fun x12 i wr => ∃ (t : Nat) (L : List Int) (AL : Option Addr) (cL : Nat) (SS AA : Nat → Int), t ≤ g.length ∧ i = .int .i64 t ∧ x12 = .slice AL m cL ∧ L.length = m ∧ (∀ x ∈ L, I64 x) ∧ RdN (w1.heap.size + 1) (w1.heap.size + 1 + 1) wr AL L ∧
              wr.rowIs (w1.heap.size + 1) 2 m (fun j => .int .i64 (SS j)) ∧ wr.rowIs (w1.heap.size + 1 + 1) 2 m (fun j => .int .i64 (AA j)) ∧ (∀ j, j < m → wrap64 (SS j + L.getD j 0) = AA j) ∧ Below w1.heap.size w1 wr ∧ w1.heap.size + 3 ≤ wr.heap.size) (fun _ i _ => g.length - (intOf i).toNat)
          case atStart => exact ⟨0, List.replicate m 0, some ⟨w1.heap.size, 0, none⟩, m, fun _ => 0, fun _ => 0, by omega, rfl, rfl, by simp, fun x hx => by rw [List.eq_of_mem_replicate hx]; decide, zeros_rd RA.out (by omega) (by omega) (by omega), RB.out, RC.out, fun j hj => by rw [List.getD_eq_getElem?_getD, List.getElem?_replicate, if_pos hj]; exact I64.wrap_in (show I64 ((0 : Int) + 0) by decide), GC.out, SC.out⟩
          case round =>
            clear RA RB RC GC SC
            obtain ⟨t, L, AL, cL, SS, AA, ht, rfl, rfl, hL, uL, hN, hS, hA, hSum, hbel, hsz⟩ := hrel
            have HLL := hid hL
            have HUL := hid uL
            have HN := hid hN
            have HSR := hid hS
            have HAR := hid hA
            have HSU := hid hSum
            have HBL := hid hbel
            have kr := k1.trans (hbel.mono k1.size)
            clear hL uL hN hS hA hSum hbel
            by_cases hlt : t < g.length
            · obtain ⟨v, hv⟩ : ∃ u, g[t]? = some u := ⟨_, List.getElem?_eq_getElem hlt⟩
              obtain ⟨hvm, hvb⟩ := HA.out v (List.mem_of_getElem? hv)
              obtain ⟨Av, cv, dv, rv⟩ := HROW.out t v hv
              have uv : ∀ x ∈ v, I64 x := fun x hx => by have := hvb x hx; unfold I64; omega
              have dv2 : wr.cell? ⟨b0, o0 + t, none⟩ = some (.slice Av m cv) := by rw [kr.cell (p := ⟨b0, o0 + t, none⟩) L0.out, ← hvm]; exact dv
              have HUV := hid uv
              have HVM := hid hvm
              have RV := hid rv
              clear dv hv hvm hvb rv uv
              by_cases htl : t < l.length
              · obtain ⟨⟨h0, h1, h2⟩, hh⟩ : ∃ h, l[t]? = some h := ⟨_, List.getElem?_eq_getElem htl⟩
                obtain ⟨bh, oh, eh, lh, x0, x1, x2⟩ := HH.out t _ hh
                have ih0 : I64 h0 := (HIL.out _ (List.mem_of_getElem? hh)).1
                have ih2 : I64 h2 := (HIL.out _ (List.mem_of_getElem? hh)).2.2
                subst eh
                have kb0 : Below wr.heap.size wr (wr.alloc (.cells #[.int .i64 0, .int .i64 0, .int .i64 0] 23)) := sg_up _ _
                have z0 : (wr.alloc (.cells #[.int .i64 0, .int .i64 0, .int .i64 0] 23)).cell? ⟨bh, oh + t * 3, none⟩ = some (.int .i64 h0) := by rw [(kr.trans (kb0.mono kr.size)).cell (p := ⟨bh, oh + t * 3, none⟩) lh]; exact x0
                have z1 : (wr.alloc (.cells #[.int .i64 0, .int .i64 0, .int .i64 0] 23)).cell? ⟨bh, oh + t * 3 + 1, none⟩ = some (.int .i64 h1) := by rw [(kr.trans (kb0.mono kr.size)).cell (p := ⟨bh, oh + t * 3 + 1, none⟩) lh]; exact x1
                have z2 : (wr.alloc (.cells #[.int .i64 0, .int .i64 0, .int .i64 0] 23)).cell? ⟨bh, oh + t * 3 + 2, none⟩ = some (.int .i64 h2) := by rw [(kr.trans (kb0.mono kr.size)).cell (p := ⟨bh, oh + t * 3 + 2, none⟩) lh]; exact x2
                go_upto_region 27 with fail
                have kb : Below wr.heap.size wr (wr.alloc (.cells #[.int .i64 h0, .int .i64 h1, .int .i64 h2] 23)) := sg_up _ _
                have fh := BoxL.new wr [.int .i64 h0, .int .i64 h1, .int .i64 h2] 23
                simp only [List.toArray] at fh
                obtain ⟨wb, hwb⟩ : ∃ x, wr.alloc (.cells #[.int .i64 h0, .int .i64 h1, .int .i64 h2] 23) = x := ⟨_, rfl⟩
                rw [hwb] at kb fh ⊢
                have y0 := (fh 0 _ rfl).1
                have y1 := (fh 1 _ rfl).1
                have y2 := (fh 2 _ rfl).1
                clear fh hwb z0 z1 z2 kb0
                have CR := hid (fun (D : Option Addr) Wx (x1 : Rd (Value.int .i64) Wx Wx.heap.size Av v) (x2 : Rd (Value.int .i64) Wx Wx.heap.size AL L) (x3 : Rd (Value.int .i64) Wx Wx.heap.size D [3, (t : Int)]) => show Calls Tryz.prog 13 #[.agg #[.int .i64 h0, .int .i64 h1, .int .i64 h2], .slice Av m cv, .slice AL m cL, .int .u64 (sd : Int), .slice D 2 2] Wx (OwnRo Wx.heap.size (prdS h0 h1 h2 v L sd [3, (t : Int)]) (prdV h0 h1 h2 v L sd [3, (t : Int)]) (prdE h0 h1 h2 v L sd [3, (t : Int)]) Wx) from by
                  have h9 := pn_Round (A := Av) (B := AL) (D := D) (c := cv) (d := cL) (q := 2) h0 h1 h2 ih0 ih2 v L HUV.out HUL.out (by rw [HVM.out]; omega) (by rw [HLL.out]; omega) sd hsd [3, (t : Int)] (by intro x hx; simp at hx; unfold I64; omega) (by simp) Wx x1 x2 x3
                  rw [HVM.out, HLL.out] at h9
                  exact h9)
                have hPS := fun h => prd_sum (sch := h0) (k := h1) (wide := h2) (g := v) (left := L) (seed := sd) (n := [3, (t : Int)]) HUV.out h
                have hwf : wfS (prdS h0 h1 h2 v L sd [3, (t : Int)]) := by
                  unfold prdS
                  split
                  · exact pp_wf ih2 op_i64
                  · exact wf_zeroS
                have hln := rd_ln h0 h1 h2 v L sd [3, (t : Int)]
                have hui : ∀ x ∈ prdV h0 h1 h2 v L sd [3, (t : Int)], I64 x := by
                  unfold prdV
                  split
                  · unfold plfV
                    split
                    · exact op_i64
                    · simp
                  · simp
                obtain ⟨S, e1⟩ : ∃ x, prdS h0 h1 h2 v L sd [3, (t : Int)] = x := ⟨_, rfl⟩
                obtain ⟨R, e2⟩ : ∃ x, prdV h0 h1 h2 v L sd [3, (t : Int)] = x := ⟨_, rfl⟩
                obtain ⟨E, e3⟩ : ∃ x, prdE h0 h1 h2 v L sd [3, (t : Int)] = x := ⟨_, rfl⟩
                rw [e1, e2, e3] at CR hPS
                rw [e1] at hwf hln
                rw [e2] at hui
                clear e1 e2 e3
                have GC := sg_up wb (.cells #[.int .i64 3, .int .i64 (t : Int)] 3)
                have RD3 := rd_new (enc := Value.int .i64) wb 3 [3, (t : Int)]
                have kc : Below wr.heap.size wr _ := kb.trans (GC.mono kb.size)
                have X1 := RV.out.on (kr.trans (kc.mono kr.size))
                have X2 := HN.out.1.on kc
                go_wp2_with fail
                refine (CR.out _ _ X1 X2 RD3).mono ?_
                rintro _ wd ⟨p, A5, c5, rfl, ho, o5, hbd⟩
                have kd : Below wr.heap.size wr wd := kc.trans (hbd.mono kc.size)
                have hsd2 : w1.heap.size + 3 ≤ wd.heap.size := by have := kd.size; omega
                by_cases hE : E = 0
                · subst hE
                  obtain ⟨q1, q2, q3, q4, q5⟩ := hPS rfl
                  rw [HVM.out] at q2 q3 q5
                  have q6 := ploE_ok.2 q1
                  have CL := hid (fun (p : SentP) Wx (x : RdS Wx Wx.heap.size S p) => show Calls Tryz.prog 20 #[.agg #[.int .i64 S.sch, .int .i64 S.dim, .slice p.AL S.L.length p.cL, .slice p.AV S.V.length p.cV, .int .i64 S.scale, .int .i64 S.wide, .slice p.AE S.lev.length p.cE, .slice p.AN S.neg.length p.cN]] Wx (OwnE 2 .i64 Wx.heap.size (ploV S) (ploE S) Wx) from pn_Loosen S p hln hwf Wx x)
                  rw [q6] at CL
                  obtain ⟨X, e4⟩ : ∃ x, ploV S = x := ⟨_, rfl⟩
                  rw [e4] at CL q2 q5
                  have RS := hid (OwnL.rd ho)
                  have O5 := hid (rdn_own (p := w1.heap.size + 1) (q := w1.heap.size + 1 + 1) o5 (by have := kc.size; simp at this ⊢; omega) (by have := kc.size; simp at this ⊢; omega))
                  rw [q3]
                  have HQ := hid q5
                  have HQ2 := hid q2
                  have HQ3 := hid q3
                  have HRI := hid hui
                  clear q1 q4 q5 q6 e4 hPS hwf hln hui ho o5 hbd CR X1 X2 RD3 GC kb kc
                  have g6 := sg_up wd (.cells #[.int .i64 S.sch, .int .i64 S.dim, .slice p.AL S.L.length p.cL, .slice p.AV S.V.length p.cV, .int .i64 S.scale, .int .i64 S.wide, .slice p.AE S.lev.length p.cE, .slice p.AN S.neg.length p.cN] 32)
                  have n6 := BoxL.new wd [.int .i64 S.sch, .int .i64 S.dim, .slice p.AL S.L.length p.cL, .slice p.AV S.V.length p.cV, .int .i64 S.scale, .int .i64 S.wide, .slice p.AE S.lev.length p.cE, .slice p.AN S.neg.length p.cN] 32
                  simp only [List.toArray] at n6
                  obtain ⟨we, hwe⟩ : ∃ x, wd.alloc (.cells #[.int .i64 S.sch, .int .i64 S.dim, .slice p.AL S.L.length p.cL, .slice p.AV S.V.length p.cV, .int .i64 S.scale, .int .i64 S.wide, .slice p.AE S.lev.length p.cE, .slice p.AN S.neg.length p.cN] 32) = x := ⟨_, rfl⟩
                  rw [hwe] at g6 n6
                  have ke : Below wr.heap.size wr we := kd.trans (g6.mono kd.size)
                  have RS2 := hid (RS.out.on g6)
                  have O6 := hid (O5.out.on g6)
                  obtain ⟨⟨f0, f1, f2, f3, f4, f5, f6, f7⟩, _⟩ := n6.eight
                  clear n6 RS O5
                  go_wp2_with fail
                  refine (CL.out p we RS2.out).mono ?_
                  rintro _ wf ⟨A7, c7, rfl, o7, hbf⟩
                  have kf : Below wr.heap.size wr wf := ke.trans (hbf.mono ke.size)
                  have NX := hid (rdn_own (p := w1.heap.size + 1) (q := w1.heap.size + 1 + 1) o7 (by have := ke.size; omega) (by have := ke.size; omega))
                  have NR := hid (O6.out.on hbf)
                  have SF := hid (HSR.out.of_block (kf.block _ (by omega)))
                  have AF := hid (HAR.out.of_block (kf.block _ (by omega)))
                  have kwf := hid (kr.trans (kf.mono kr.size))
                  have BF := hid (HBL.out.trans (kf.mono (by omega)))
                  have SZF := hid (show w1.heap.size + 3 ≤ wf.heap.size by have := kf.size; omega)
                  have tm : ((m : Int) != (m : Int)) = false := by simp
                  rw [q2]
                  clear o7 hbf g6 f0 f1 f2 f3 f4 f5 f6 f7 RS2 O6 CL hwe ke kd kf HSR HAR HN HBL q2 q3
                  go_wp2_with fail
                  go_loopw [134] (fun i wr => ∃ j : Nat, j ≤ m ∧ i = .int .i64 j ∧ wr.rowIs (w1.heap.size + 1) 2 m (fun y => .int .i64 (if y < j then wrap64 (SS y + X.getD y 0) else SS y)) ∧ wr.rowIs (w1.heap.size + 1 + 1) 2 m (fun y => .int .i64 (if y < j then wrap64 (AA y + v.getD y 0) else AA y)) ∧
                      RdN (w1.heap.size + 1) (w1.heap.size + 1 + 1) wr A7 X ∧ RdN (w1.heap.size + 1) (w1.heap.size + 1 + 1) wr A5 R ∧ Below (w1.heap.size + 1) wf wr) (fun i _ => m - (intOf i).toNat)
                  case atStart => exact ⟨0, by omega, rfl, SF.out.congr (fun y hy => by rw [if_neg (by omega)]), AF.out.congr (fun y hy => by rw [if_neg (by omega)]), NX.out, NR.out, Below.refl _ _⟩
                  case round =>
                    clear SF AF NX NR
                    obtain ⟨j, hj, rfl, hs3, ha3, hx3, hr3, hb3⟩ := hrel
                    have HS3 := hid hs3
                    have HA3 := hid ha3
                    have HX3 := hid hx3
                    have HR3 := hid hr3
                    have HB3 := hid hb3
                    have kw3 := kwf.out.trans (hb3.mono (by have := k1.size; omega))
                    clear hs3 ha3 hx3 hr3 hb3
                    by_cases hjl : j < m
                    · obtain ⟨bx, ox, x, ex0, lx, ex, dx⟩ := HX3.out.1.at_ (k := j) (by rw [HQ2.out]; exact hjl)
                      obtain ⟨nx1, nx2⟩ := HX3.out.2 bx ox ex0
                      obtain ⟨bv, ov, y, ev0, lv, ev, dv⟩ := (RV.out.on kw3).at_ (k := j) (by rw [HVM.out]; exact hjl)
                      have lvw : bv < w1.heap.size := by
                        obtain ⟨b9, o9, y9, e9, l9, _⟩ := RV.out.at_ (k := j) (by rw [HVM.out]; exact hjl)
                        rw [ev0] at e9
                        injection e9 with e9
                        injection e9 with e9 _
                        have := k1.size
                        omega
                      subst ex0 ev0
                      have HX9 := hid (show X.getD j 0 = x by rw [List.getD_eq_getElem?_getD, ex]; rfl)
                      have HV9 := hid (show v.getD j 0 = y by rw [List.getD_eq_getElem?_getD, ev]; rfl)
                      have c3 := HS3.out.cell hjl
                      rw [if_neg (Nat.lt_irrefl j)] at c3
                      have f3 := HS3.out.frozen j
                      obtain ⟨z, hz⟩ : ∃ z, SS j = z := ⟨_, rfl⟩
                      obtain ⟨z2, hz2⟩ : ∃ z, AA j = z := ⟨_, rfl⟩
                      rw [hz] at c3
                      have HZ := hid hz
                      have HZ2 := hid hz2
                      obtain ⟨s9, hs9⟩ : ∃ s, wrap64 (z + x) = s := ⟨_, rfl⟩
                      obtain ⟨a9, ha9⟩ : ∃ s, wrap64 (z2 + y) = s := ⟨_, rfl⟩
                      have HS9 := hid hs9
                      have HA9 := hid ha9
                      clear ex ev hz hz2
                      go_wp2_with fail
                      go_region
                      obtain ⟨W1, hW1⟩ : ∃ x, (wr.setCell ⟨w1.heap.size + 1, j, none⟩ (.int .i64 s9)).drew = x := ⟨_, rfl⟩
                      rw [hW1]
                      have b1 : Below (w1.heap.size + 1) wr W1 := by rw [← hW1]; exact (show Below (w1.heap.size + 1) wr (wr.setCell ⟨w1.heap.size + 1, j, none⟩ (.int .i64 s9)) from (Below.refl (w1.heap.size + 1) wr).setCell (by show w1.heap.size + 1 ≤ w1.heap.size + 1; omega) _).drew
                      have S1 := hid (show W1.rowIs (w1.heap.size + 1) 2 m (fun y => if y = j then .int .i64 s9 else .int .i64 (if y < j then wrap64 (SS y + X.getD y 0) else SS y)) from by rw [← hW1]; exact HS3.out.set j _)
                      have A1 := hid (show W1.rowIs (w1.heap.size + 1 + 1) 2 m (fun y => .int .i64 (if y < j then wrap64 (AA y + v.getD y 0) else AA y)) from by rw [← hW1]; exact HA3.out.of_block (Below.heap_setCell wr _ _ _ (by show w1.heap.size + 1 + 1 ≠ w1.heap.size + 1; omega)))
                      have X1 := hid (show RdN (w1.heap.size + 1) (w1.heap.size + 1 + 1) W1 (some ⟨bx, ox, none⟩) X from by rw [← hW1]; exact (HX3.out.set (.inl rfl) _).drew)
                      have R1 := hid (show RdN (w1.heap.size + 1) (w1.heap.size + 1 + 1) W1 A5 R from by rw [← hW1]; exact (HR3.out.set (.inl rfl) _).drew)
                      have dv1 : W1.cell? ⟨bv, ov + j, none⟩ = some (.int .i64 y) := by rw [b1.cell (p := ⟨bv, ov + j, none⟩) (by show bv < _; omega)]; exact dv
                      have B1 := hid (HB3.out.trans b1)
                      have c4 := A1.out.cell hjl
                      rw [if_neg (Nat.lt_irrefl j), HZ2.out] at c4
                      have f4 := A1.out.frozen j
                      clear dx dv c3 f3 hW1 b1 HS3 HA3 HX3 HR3 HB3
                      go_wp2_with fail
                      go_region
                      obtain ⟨W2, hW2⟩ : ∃ x, (W1.setCell ⟨w1.heap.size + 1 + 1, j, none⟩ (.int .i64 a9)).drew = x := ⟨_, rfl⟩
                      rw [hW2]
                      have S2 := hid (show W2.rowIs (w1.heap.size + 1) 2 m (fun y => if y = j then .int .i64 s9 else .int .i64 (if y < j then wrap64 (SS y + X.getD y 0) else SS y)) from by rw [← hW2]; exact S1.out.of_block (Below.heap_setCell W1 _ _ _ (by show w1.heap.size + 1 ≠ w1.heap.size + 1 + 1; omega)))
                      have A2 := hid (show W2.rowIs (w1.heap.size + 1 + 1) 2 m (fun y => if y = j then .int .i64 a9 else .int .i64 (if y < j then wrap64 (AA y + v.getD y 0) else AA y)) from by rw [← hW2]; exact A1.out.set j _)
                      have X2 := hid (show RdN (w1.heap.size + 1) (w1.heap.size + 1 + 1) W2 (some ⟨bx, ox, none⟩) X from by rw [← hW2]; exact (X1.out.set (.inr rfl) _).drew)
                      have R2 := hid (show RdN (w1.heap.size + 1) (w1.heap.size + 1 + 1) W2 A5 R from by rw [← hW2]; exact (R1.out.set (.inr rfl) _).drew)
                      have B2 := hid (show Below (w1.heap.size + 1) wf W2 from by rw [← hW2]; exact (B1.out.setCell (by show _ ≤ w1.heap.size + 1 + 1; omega) _).drew)
                      clear dv1 c4 f4 hW2 S1 A1 X1 R1 B1
                      go_wp2_with fail
                      go_roundw
                      case rel =>
                        refine ⟨j + 1, by omega, by go_num, S2.out.congr fun y hy => ?_, A2.out.congr fun y hy => ?_, X2.out, R2.out, B2.out⟩
                        · by_cases e : y = j
                          · subst e
                            rw [if_pos rfl, if_pos (by omega), HZ.out, HX9.out, HS9.out]
                          · rw [if_neg e]
                            by_cases e2 : y < j
                            · rw [if_pos e2, if_pos (by omega)]
                            · rw [if_neg e2, if_neg (by omega)]
                        · by_cases e : y = j
                          · subst e
                            rw [if_pos rfl, if_pos (by omega), HZ2.out, HV9.out, HA9.out]
                          · rw [if_neg e]
                            by_cases e2 : y < j
                            · rw [if_pos e2, if_pos (by omega)]
                            · rw [if_neg e2, if_neg (by omega)]
                      case measure => simp [intOf]; omega
                    · obtain rfl : j = m := by omega
                      have hSn : wr.rowIs (w1.heap.size + 1) 2 j (fun y => .int .i64 (wrap64 (SS y + X.getD y 0))) := HS3.out.congr (fun y hy => by rw [if_pos hy])
                      have hAn : wr.rowIs (w1.heap.size + 1 + 1) 2 j (fun y => .int .i64 (wrap64 (AA y + v.getD y 0))) := HA3.out.congr (fun y hy => by rw [if_pos hy])
                      have HSn := hid hSn
                      have HAn := hid hAn
                      clear hSn hAn
                      go_wp2_with fail
                      go_roundw
                      case rel =>
                        exact ⟨t + 1, R, A5, c5, fun y => wrap64 (SS y + X.getD y 0), fun y => wrap64 (AA y + v.getD y 0), by omega, by go_num, rfl, HQ3.out, HRI.out, HR3.out, HSn.out, HAn.out, fun y hy => rnd_step (HSU.out y hy) (HQ.out y hy), BF.out.trans (HB3.out.mono (by omega)), by have := SZF.out; have := HB3.out.size; omega⟩
                      case measure => simp [intOf]; omega
                · have hne : (E != 0) = true := by simpa using hE
                  have kz : Below w.heap.size w (wd.alloc (.cells #[.int .i64 S.sch, .int .i64 S.dim, .slice p.AL S.L.length p.cL, .slice p.AV S.V.length p.cV, .int .i64 S.scale, .int .i64 S.wide, .slice p.AE S.lev.length p.cE, .slice p.AN S.neg.length p.cN] 32)) := (kr.trans (kd.mono kr.size)).alloc (by have := kr.size; have := kd.size; omega) _
                  clear hE hPS hwf hln hui ho o5 hbd CR X1 X2 RD3 GC kc
                  go_wp2_with fail
                  go_ret
                  exact ⟨rfl, kz⟩
              · go_upto_region 27 with fail
                have kb : Below wr.heap.size wr (wr.alloc (.cells #[.int .i64 0, .int .i64 0, .int .i64 0] 23)) := sg_up _ _
                have fh := BoxL.new wr [.int .i64 0, .int .i64 0, .int .i64 0] 23
                simp only [List.toArray] at fh
                obtain ⟨wb, hwb⟩ : ∃ x, wr.alloc (.cells #[.int .i64 0, .int .i64 0, .int .i64 0] 23) = x := ⟨_, rfl⟩
                rw [hwb] at kb fh ⊢
                have y0 := (fh 0 _ rfl).1
                have y1 := (fh 1 _ rfl).1
                have y2 := (fh 2 _ rfl).1
                clear fh hwb
                have CR := hid (fun (D : Option Addr) Wx (x1 : Rd (Value.int .i64) Wx Wx.heap.size Av v) (x2 : Rd (Value.int .i64) Wx Wx.heap.size AL L) (x3 : Rd (Value.int .i64) Wx Wx.heap.size D [3, (t : Int)]) => show Calls Tryz.prog 13 #[.agg #[.int .i64 0, .int .i64 0, .int .i64 0], .slice Av m cv, .slice AL m cL, .int .u64 (sd : Int), .slice D 2 2] Wx (OwnRo Wx.heap.size (prdS 0 0 0 v L sd [3, (t : Int)]) (prdV 0 0 0 v L sd [3, (t : Int)]) (prdE 0 0 0 v L sd [3, (t : Int)]) Wx) from by
                  have h9 := pn_Round (A := Av) (B := AL) (D := D) (c := cv) (d := cL) (q := 2) 0 0 0 (by decide) (by decide) v L HUV.out HUL.out (by rw [HVM.out]; omega) (by rw [HLL.out]; omega) sd hsd [3, (t : Int)] (by intro x hx; simp at hx; unfold I64; omega) (by simp) Wx x1 x2 x3
                  rw [HVM.out, HLL.out] at h9
                  exact h9)
                have hPS := fun h => prd_sum (sch := 0) (k := 0) (wide := 0) (g := v) (left := L) (seed := sd) (n := [3, (t : Int)]) HUV.out h
                have hwf : wfS (prdS 0 0 0 v L sd [3, (t : Int)]) := by
                  unfold prdS
                  split
                  · exact pp_wf (by decide) op_i64
                  · exact wf_zeroS
                have hln := rd_ln 0 0 0 v L sd [3, (t : Int)]
                have hui : ∀ x ∈ prdV 0 0 0 v L sd [3, (t : Int)], I64 x := by
                  unfold prdV
                  split
                  · unfold plfV
                    split
                    · exact op_i64
                    · simp
                  · simp
                obtain ⟨S, e1⟩ : ∃ x, prdS 0 0 0 v L sd [3, (t : Int)] = x := ⟨_, rfl⟩
                obtain ⟨R, e2⟩ : ∃ x, prdV 0 0 0 v L sd [3, (t : Int)] = x := ⟨_, rfl⟩
                obtain ⟨E, e3⟩ : ∃ x, prdE 0 0 0 v L sd [3, (t : Int)] = x := ⟨_, rfl⟩
                rw [e1, e2, e3] at CR hPS
                rw [e1] at hwf hln
                rw [e2] at hui
                clear e1 e2 e3
                have GC := sg_up wb (.cells #[.int .i64 3, .int .i64 (t : Int)] 3)
                have RD3 := rd_new (enc := Value.int .i64) wb 3 [3, (t : Int)]
                have kc : Below wr.heap.size wr _ := kb.trans (GC.mono kb.size)
                have X1 := RV.out.on (kr.trans (kc.mono kr.size))
                have X2 := HN.out.1.on kc
                go_wp2_with fail
                refine (CR.out _ _ X1 X2 RD3).mono ?_
                rintro _ wd ⟨p, A5, c5, rfl, ho, o5, hbd⟩
                have kd : Below wr.heap.size wr wd := kc.trans (hbd.mono kc.size)
                have hsd2 : w1.heap.size + 3 ≤ wd.heap.size := by have := kd.size; omega
                by_cases hE : E = 0
                · subst hE
                  obtain ⟨q1, q2, q3, q4, q5⟩ := hPS rfl
                  rw [HVM.out] at q2 q3 q5
                  have q6 := ploE_ok.2 q1
                  have CL := hid (fun (p : SentP) Wx (x : RdS Wx Wx.heap.size S p) => show Calls Tryz.prog 20 #[.agg #[.int .i64 S.sch, .int .i64 S.dim, .slice p.AL S.L.length p.cL, .slice p.AV S.V.length p.cV, .int .i64 S.scale, .int .i64 S.wide, .slice p.AE S.lev.length p.cE, .slice p.AN S.neg.length p.cN]] Wx (OwnE 2 .i64 Wx.heap.size (ploV S) (ploE S) Wx) from pn_Loosen S p hln hwf Wx x)
                  rw [q6] at CL
                  obtain ⟨X, e4⟩ : ∃ x, ploV S = x := ⟨_, rfl⟩
                  rw [e4] at CL q2 q5
                  have RS := hid (OwnL.rd ho)
                  have O5 := hid (rdn_own (p := w1.heap.size + 1) (q := w1.heap.size + 1 + 1) o5 (by have := kc.size; simp at this ⊢; omega) (by have := kc.size; simp at this ⊢; omega))
                  rw [q3]
                  have HQ := hid q5
                  have HQ2 := hid q2
                  have HQ3 := hid q3
                  have HRI := hid hui
                  clear q1 q4 q5 q6 e4 hPS hwf hln hui ho o5 hbd CR X1 X2 RD3 GC kb kc
                  have g6 := sg_up wd (.cells #[.int .i64 S.sch, .int .i64 S.dim, .slice p.AL S.L.length p.cL, .slice p.AV S.V.length p.cV, .int .i64 S.scale, .int .i64 S.wide, .slice p.AE S.lev.length p.cE, .slice p.AN S.neg.length p.cN] 32)
                  have n6 := BoxL.new wd [.int .i64 S.sch, .int .i64 S.dim, .slice p.AL S.L.length p.cL, .slice p.AV S.V.length p.cV, .int .i64 S.scale, .int .i64 S.wide, .slice p.AE S.lev.length p.cE, .slice p.AN S.neg.length p.cN] 32
                  simp only [List.toArray] at n6
                  obtain ⟨we, hwe⟩ : ∃ x, wd.alloc (.cells #[.int .i64 S.sch, .int .i64 S.dim, .slice p.AL S.L.length p.cL, .slice p.AV S.V.length p.cV, .int .i64 S.scale, .int .i64 S.wide, .slice p.AE S.lev.length p.cE, .slice p.AN S.neg.length p.cN] 32) = x := ⟨_, rfl⟩
                  rw [hwe] at g6 n6
                  have ke : Below wr.heap.size wr we := kd.trans (g6.mono kd.size)
                  have RS2 := hid (RS.out.on g6)
                  have O6 := hid (O5.out.on g6)
                  obtain ⟨⟨f0, f1, f2, f3, f4, f5, f6, f7⟩, _⟩ := n6.eight
                  clear n6 RS O5
                  go_wp2_with fail
                  refine (CL.out p we RS2.out).mono ?_
                  rintro _ wf ⟨A7, c7, rfl, o7, hbf⟩
                  have kf : Below wr.heap.size wr wf := ke.trans (hbf.mono ke.size)
                  have NX := hid (rdn_own (p := w1.heap.size + 1) (q := w1.heap.size + 1 + 1) o7 (by have := ke.size; omega) (by have := ke.size; omega))
                  have NR := hid (O6.out.on hbf)
                  have SF := hid (HSR.out.of_block (kf.block _ (by omega)))
                  have AF := hid (HAR.out.of_block (kf.block _ (by omega)))
                  have kwf := hid (kr.trans (kf.mono kr.size))
                  have BF := hid (HBL.out.trans (kf.mono (by omega)))
                  have SZF := hid (show w1.heap.size + 3 ≤ wf.heap.size by have := kf.size; omega)
                  have tm : ((m : Int) != (m : Int)) = false := by simp
                  rw [q2]
                  clear o7 hbf g6 f0 f1 f2 f3 f4 f5 f6 f7 RS2 O6 CL hwe ke kd kf HSR HAR HN HBL q2 q3
                  go_wp2_with fail
                  go_loopw [134] (fun i wr => ∃ j : Nat, j ≤ m ∧ i = .int .i64 j ∧ wr.rowIs (w1.heap.size + 1) 2 m (fun y => .int .i64 (if y < j then wrap64 (SS y + X.getD y 0) else SS y)) ∧ wr.rowIs (w1.heap.size + 1 + 1) 2 m (fun y => .int .i64 (if y < j then wrap64 (AA y + v.getD y 0) else AA y)) ∧
                      RdN (w1.heap.size + 1) (w1.heap.size + 1 + 1) wr A7 X ∧ RdN (w1.heap.size + 1) (w1.heap.size + 1 + 1) wr A5 R ∧ Below (w1.heap.size + 1) wf wr) (fun i _ => m - (intOf i).toNat)
                  case atStart => exact ⟨0, by omega, rfl, SF.out.congr (fun y hy => by rw [if_neg (by omega)]), AF.out.congr (fun y hy => by rw [if_neg (by omega)]), NX.out, NR.out, Below.refl _ _⟩
                  case round =>
                    clear SF AF NX NR
                    obtain ⟨j, hj, rfl, hs3, ha3, hx3, hr3, hb3⟩ := hrel
                    have HS3 := hid hs3
                    have HA3 := hid ha3
                    have HX3 := hid hx3
                    have HR3 := hid hr3
                    have HB3 := hid hb3
                    have kw3 := kwf.out.trans (hb3.mono (by have := k1.size; omega))
                    clear hs3 ha3 hx3 hr3 hb3
                    by_cases hjl : j < m
                    · obtain ⟨bx, ox, x, ex0, lx, ex, dx⟩ := HX3.out.1.at_ (k := j) (by rw [HQ2.out]; exact hjl)
                      obtain ⟨nx1, nx2⟩ := HX3.out.2 bx ox ex0
                      obtain ⟨bv, ov, y, ev0, lv, ev, dv⟩ := (RV.out.on kw3).at_ (k := j) (by rw [HVM.out]; exact hjl)
                      have lvw : bv < w1.heap.size := by
                        obtain ⟨b9, o9, y9, e9, l9, _⟩ := RV.out.at_ (k := j) (by rw [HVM.out]; exact hjl)
                        rw [ev0] at e9
                        injection e9 with e9
                        injection e9 with e9 _
                        have := k1.size
                        omega
                      subst ex0 ev0
                      have HX9 := hid (show X.getD j 0 = x by rw [List.getD_eq_getElem?_getD, ex]; rfl)
                      have HV9 := hid (show v.getD j 0 = y by rw [List.getD_eq_getElem?_getD, ev]; rfl)
                      have c3 := HS3.out.cell hjl
                      rw [if_neg (Nat.lt_irrefl j)] at c3
                      have f3 := HS3.out.frozen j
                      obtain ⟨z, hz⟩ : ∃ z, SS j = z := ⟨_, rfl⟩
                      obtain ⟨z2, hz2⟩ : ∃ z, AA j = z := ⟨_, rfl⟩
                      rw [hz] at c3
                      have HZ := hid hz
                      have HZ2 := hid hz2
                      obtain ⟨s9, hs9⟩ : ∃ s, wrap64 (z + x) = s := ⟨_, rfl⟩
                      obtain ⟨a9, ha9⟩ : ∃ s, wrap64 (z2 + y) = s := ⟨_, rfl⟩
                      have HS9 := hid hs9
                      have HA9 := hid ha9
                      clear ex ev hz hz2
                      go_wp2_with fail
                      go_region
                      obtain ⟨W1, hW1⟩ : ∃ x, (wr.setCell ⟨w1.heap.size + 1, j, none⟩ (.int .i64 s9)).drew = x := ⟨_, rfl⟩
                      rw [hW1]
                      have b1 : Below (w1.heap.size + 1) wr W1 := by rw [← hW1]; exact (show Below (w1.heap.size + 1) wr (wr.setCell ⟨w1.heap.size + 1, j, none⟩ (.int .i64 s9)) from (Below.refl (w1.heap.size + 1) wr).setCell (by show w1.heap.size + 1 ≤ w1.heap.size + 1; omega) _).drew
                      have S1 := hid (show W1.rowIs (w1.heap.size + 1) 2 m (fun y => if y = j then .int .i64 s9 else .int .i64 (if y < j then wrap64 (SS y + X.getD y 0) else SS y)) from by rw [← hW1]; exact HS3.out.set j _)
                      have A1 := hid (show W1.rowIs (w1.heap.size + 1 + 1) 2 m (fun y => .int .i64 (if y < j then wrap64 (AA y + v.getD y 0) else AA y)) from by rw [← hW1]; exact HA3.out.of_block (Below.heap_setCell wr _ _ _ (by show w1.heap.size + 1 + 1 ≠ w1.heap.size + 1; omega)))
                      have X1 := hid (show RdN (w1.heap.size + 1) (w1.heap.size + 1 + 1) W1 (some ⟨bx, ox, none⟩) X from by rw [← hW1]; exact (HX3.out.set (.inl rfl) _).drew)
                      have R1 := hid (show RdN (w1.heap.size + 1) (w1.heap.size + 1 + 1) W1 A5 R from by rw [← hW1]; exact (HR3.out.set (.inl rfl) _).drew)
                      have dv1 : W1.cell? ⟨bv, ov + j, none⟩ = some (.int .i64 y) := by rw [b1.cell (p := ⟨bv, ov + j, none⟩) (by show bv < _; omega)]; exact dv
                      have B1 := hid (HB3.out.trans b1)
                      have c4 := A1.out.cell hjl
                      rw [if_neg (Nat.lt_irrefl j), HZ2.out] at c4
                      have f4 := A1.out.frozen j
                      clear dx dv c3 f3 hW1 b1 HS3 HA3 HX3 HR3 HB3
                      go_wp2_with fail
                      go_region
                      obtain ⟨W2, hW2⟩ : ∃ x, (W1.setCell ⟨w1.heap.size + 1 + 1, j, none⟩ (.int .i64 a9)).drew = x := ⟨_, rfl⟩
                      rw [hW2]
                      have S2 := hid (show W2.rowIs (w1.heap.size + 1) 2 m (fun y => if y = j then .int .i64 s9 else .int .i64 (if y < j then wrap64 (SS y + X.getD y 0) else SS y)) from by rw [← hW2]; exact S1.out.of_block (Below.heap_setCell W1 _ _ _ (by show w1.heap.size + 1 ≠ w1.heap.size + 1 + 1; omega)))
                      have A2 := hid (show W2.rowIs (w1.heap.size + 1 + 1) 2 m (fun y => if y = j then .int .i64 a9 else .int .i64 (if y < j then wrap64 (AA y + v.getD y 0) else AA y)) from by rw [← hW2]; exact A1.out.set j _)
                      have X2 := hid (show RdN (w1.heap.size + 1) (w1.heap.size + 1 + 1) W2 (some ⟨bx, ox, none⟩) X from by rw [← hW2]; exact (X1.out.set (.inr rfl) _).drew)
                      have R2 := hid (show RdN (w1.heap.size + 1) (w1.heap.size + 1 + 1) W2 A5 R from by rw [← hW2]; exact (R1.out.set (.inr rfl) _).drew)
                      have B2 := hid (show Below (w1.heap.size + 1) wf W2 from by rw [← hW2]; exact (B1.out.setCell (by show _ ≤ w1.heap.size + 1 + 1; omega) _).drew)
                      clear dv1 c4 f4 hW2 S1 A1 X1 R1 B1
                      go_wp2_with fail
                      go_roundw
                      case rel =>
                        refine ⟨j + 1, by omega, by go_num, S2.out.congr fun y hy => ?_, A2.out.congr fun y hy => ?_, X2.out, R2.out, B2.out⟩
                        · by_cases e : y = j
                          · subst e
                            rw [if_pos rfl, if_pos (by omega), HZ.out, HX9.out, HS9.out]
                          · rw [if_neg e]
                            by_cases e2 : y < j
                            · rw [if_pos e2, if_pos (by omega)]
                            · rw [if_neg e2, if_neg (by omega)]
                        · by_cases e : y = j
                          · subst e
                            rw [if_pos rfl, if_pos (by omega), HZ2.out, HV9.out, HA9.out]
                          · rw [if_neg e]
                            by_cases e2 : y < j
                            · rw [if_pos e2, if_pos (by omega)]
                            · rw [if_neg e2, if_neg (by omega)]
                      case measure => simp [intOf]; omega
                    · obtain rfl : j = m := by omega
                      have hSn : wr.rowIs (w1.heap.size + 1) 2 j (fun y => .int .i64 (wrap64 (SS y + X.getD y 0))) := HS3.out.congr (fun y hy => by rw [if_pos hy])
                      have hAn : wr.rowIs (w1.heap.size + 1 + 1) 2 j (fun y => .int .i64 (wrap64 (AA y + v.getD y 0))) := HA3.out.congr (fun y hy => by rw [if_pos hy])
                      have HSn := hid hSn
                      have HAn := hid hAn
                      clear hSn hAn
                      go_wp2_with fail
                      go_roundw
                      case rel =>
                        exact ⟨t + 1, R, A5, c5, fun y => wrap64 (SS y + X.getD y 0), fun y => wrap64 (AA y + v.getD y 0), by omega, by go_num, rfl, HQ3.out, HRI.out, HR3.out, HSn.out, HAn.out, fun y hy => rnd_step (HSU.out y hy) (HQ.out y hy), BF.out.trans (HB3.out.mono (by omega)), by have := SZF.out; have := HB3.out.size; omega⟩
                      case measure => simp [intOf]; omega
                · have hne : (E != 0) = true := by simpa using hE
                  have kz : Below w.heap.size w (wd.alloc (.cells #[.int .i64 S.sch, .int .i64 S.dim, .slice p.AL S.L.length p.cL, .slice p.AV S.V.length p.cV, .int .i64 S.scale, .int .i64 S.wide, .slice p.AE S.lev.length p.cE, .slice p.AN S.neg.length p.cN] 32)) := (kr.trans (kd.mono kr.size)).alloc (by have := kr.size; have := kd.size; omega) _
                  clear hE hPS hwf hln hui ho o5 hbd CR X1 X2 RD3 GC kc
                  go_wp2_with fail
                  go_ret
                  exact ⟨rfl, kz⟩
            · obtain rfl : t = g.length := by omega
              have KR := hid kr
              clear kr
              go_wp2_with fail
              go_loopw [24, 162] (fun x24 i w2 => ∃ j : Nat, j ≤ m ∧ i = .int .i64 j ∧ ∃ n, w2 = wr.drewN n) (fun _ i _ => m - (intOf i).toNat)
              case atStart => exact ⟨0, by omega, rfl, 0, rfl⟩
              case round =>
                obtain ⟨j, hj, rfl, n, rfl⟩ := hrel
                by_cases hjl : j < m
                · obtain ⟨bx, ox, x, ex0, lx, ex, dx⟩ := HN.out.1.at_ (k := j) (by rw [HLL.out]; exact hjl)
                  have hx9 : L.getD j 0 = x := by rw [List.getD_eq_getElem?_getD, ex]; rfl
                  have hsu := HSU.out j hjl
                  rw [hx9] at hsu
                  have c1 := HSR.out.cell hjl
                  have c2 := HAR.out.cell hjl
                  obtain ⟨z, hz⟩ : ∃ z, SS j = z := ⟨_, rfl⟩
                  obtain ⟨a, ha⟩ : ∃ z, AA j = z := ⟨_, rfl⟩
                  rw [hz, ha] at hsu
                  rw [hz] at c1
                  rw [ha] at c2
                  have t5 : (a != a) = false := by simp
                  subst ex0
                  clear ex hx9 hz ha
                  go_wp2_with fail
                  go_quiet (fail)
                  go_wp2_with fail
                  go_roundw
                  case rel => exact ⟨j + 1, by omega, by go_num, _, rfl⟩
                  case measure => simp [intOf]; omega
                · obtain rfl : j = m := by omega
                  go_wp2_with fail
                  go_ret
                  exact ⟨rfl, KR.out.trans (belowN _ _ _)⟩
  · rw [Bool.eq_false_iff.2 hf] at CF
    clear hf rl rg il ig
    go_enter Tryz.func6, Tryz.ntmps6
    go_wp2_with fail
    refine (ps_live _).mono ?_
    rintro _ w1 ⟨rfl, k1⟩
    go_wp2_with fail
    refine (CF.out w1 k1).mono ?_
    rintro _ _ ⟨rfl, rfl⟩
    clear CF
    go_wp2_with fail
    go_ret
    exact ⟨rfl, k1⟩
theorem law_types : ∀ t ∈ Tryz.f6.params.toList, Tryz.prog.readableRec t = true ∧ t < Tryz.prog.types.size := by
  have h : (Tryz.f6.params.toList.all fun t => Tryz.prog.readableRec t && decide (t < Tryz.prog.types.size)) = true := by kernel_rfl
  intro t ht
  simpa using List.all_eq_true.1 h t ht
set_option maxRecDepth 100000 in
theorem lifted (os : Os) (started : os.Started) (H : Type) (enc : TypeId × Value → H) :
    ReturnsInHanded {} Tryz.checked os 6 .any (Rows.pressRoundsSpec.pre6 enc Tryz.prog Tryz.f6 Rows.pressRoundsRow.domain false) (Rows.pressRoundsSpec.post enc Tryz.prog Tryz.f6 false true false false) := by
  refine returnsInHanded_of_change (C := Tryz.checked) own started (by kernel_rfl) Tryz.func6
    (ChangeSpec.witness6 (enc := enc) (C := Tryz.checked) false ⟨#[], #[.slice none 0 0, .slice none 0 0, .int .u64 0], []⟩ 8 (by kernel_rfl) (by kernel_rfl) (by kernel_rfl) (by kernel_rfl)) ?_
  intro W base args ds gs before hval0 hW hcnd _
  have hval : ∀ (j : Nat) t v, Tryz.f6.params[j]? = some t → args[j]? = some v → Value.okWide Tryz.prog W .any base t v := hval0
  have hW' := hW
  obtain ⟨p, q, hA0, hV, rfl, hfz, hnd⟩ := hW
  have hA : DataW.TrodAll enc Tryz.prog W 0 (fun _ => true) true Tryz.f6.params.toList args.toList ds p := hA0
  rw [Tryz.params6] at hA hval
  obtain ⟨v0, vs0, d0, ds0, p0, q0, hargs, rfl, rfl, h0, r0⟩ := trodAll_cons hA
  obtain ⟨v1, vs1, d1, ds1, p1, q1, rfl, rfl, rfl, h1, r1⟩ := trodAll_cons r0
  obtain ⟨v2, vs2, d2, ds2, p2, q2, rfl, rfl, rfl, h2, r2⟩ := trodAll_cons r1
  obtain ⟨rfl, rfl, rfl⟩ := trodAll_nil r2
  obtain rfl : args = #[v0, v1, v2] := by cases args; simp_all
  obtain ⟨rfl, rfl⟩ := trodVars_none hV
  obtain ⟨Al, l, cl, rfl, rdl, il, lcl, lml⟩ := open_hows (hval 0 58 v0 rfl rfl) h0
  obtain ⟨Ag, g, cg, rfl, rdg, ig, lcg, lmg⟩ := open_rows Tryz.underlying59 Tryz.underlying24 Tryz.underlying2 cells_i64s cells_i64 (hval 1 59 v1 rfl rfl) h1
  obtain ⟨seed, rfl, rfl, rfl, w2⟩ := open_int Tryz.underlying25 (hval 2 25 v2 rfl rfl) h2
  clear hA0 hval0
  refine (walk Al l cl Ag g cg seed W rdl il lcl lml rdg ig lcg lmg (U64.of_wf w2)).mono fun e W' ⟨he, hb⟩ => ?_
  subst he
  exact ⟨_, rfl, law_post laid (fun t ht => law_types t ht) rfl hW' ⟨rfl, rfl, rfl⟩ (by kernel_rfl) Tryz.underlying4 hb⟩

theorem over : Rows.pressRoundsRow.holds Tryz.pinned (OpenSpec.ofChange Rows.pressRoundsSpec) :=
  OpenClaim.holds_of_wide 6 Tryz.f6 rfl rfl rfl rfl rfl rfl rfl ⟨rfl, rfl, rfl, rfl, rfl⟩ rfl rfl rfl rfl rfl (by kernel_rfl) Tryz.func6 (by kernel_rfl)
    (of_decide_eq_true (by kernel_rfl)) (by unfold Func.isWrapper; first | (rw [if_pos (by decide +kernel)]; kernel_rfl) | (rw [if_neg (by decide +kernel)]; exact ⟨rfl, rfl⟩))
    (fun os started H enc _ => lifted os started H enc)

theorem proved : Rows.PressRoundsSaid := over
end Go.Proofs.YtecgbelgoomneaaGreat.PressRounds
