
/- ZPpC: texts joined: PpC. -/
import Derived.Test.YtecgbelgoomneaaGreatZb
import Derived.Test.YtecgbelgoomneaaGreatZPsB
import Derived.Test.YtecgbelgoomneaaGreatZa
import Derived.Deep.RegionLaw
/- Whether a way may be: the program's. -/
namespace Go.Proofs.YtecgbelgoomneaaGreat
open Go.RowKit
set_option maxHeartbeats 4000000
set_option maxRecDepth 100000
set_option linter.unusedVariables false
theorem run_store_fn {P : Program} {w : World} (a : Addr) (m : Mode) (fn : Fn) (first captured : Array Value) : (store a (.func fn first captured) m).run P w = stored P w a (.func fn first captured) m := run_store P w a _ m rfl
theorem run_store_nf {P : Program} {w : World} (a : Addr) (m : Mode) : (store a .nilFunc m).run P w = stored P w a .nilFunc m := run_store P w a _ m rfl
attribute [local go_sem] run_store_fn run_store_nf
theorem ways_up {b : Nat} {W W' : World} (h : ∀ V : World, V.heap[b]? = W.heap[b]? → WaysAt b V) (hb : b < W.heap.size) (hw : Below W.heap.size W W') : WaysAt b W' := h W' (hw.block b hb)
theorem BoxL.set4 {w : World} {g : Nat} {a b c d : Value} (h : BoxL w g [a, b, c, d]) (a' b' c' d' : Value) : BoxL ((((w.setCell ⟨g, 0, none⟩ a').setCell ⟨g, 1, none⟩ b').setCell ⟨g, 2, none⟩ c').setCell ⟨g, 3, none⟩ d') g [a', b', c', d'] :=
  (((h.one (k := 0) rfl a').one (k := 1) (v := b) rfl b').one (k := 2) (v := c) rfl c').one (k := 3) (v := d) rfl d'
theorem pk_0 (k wide dim : Int) (R : Bool) (hR : R = true ↔ k = 0 ∧ wide = 0) (E : Int) (hE : E = if 1 ≤ dim ∧ dim ≤ 4096 ∧ R = true then 0 else 1) (w : World) :
    Calls Tryz.prog 17 #[.agg #[.int .i64 0, .int .i64 k, .int .i64 wide], .int .i64 dim] w fun e w' => e = .returned (.int .i64 E) ∧ Below w.heap.size w w' := by
  have HE := hid hE
  clear hE
  have CW := hid (fun W => wy_ways W)
  have CM := hid (fun W => wy_bare 0 k wide dim R hR W)
  clear hR
  have BH := (BoxL.new w [.int .i64 0, .int .i64 k, .int .i64 wide] 23)
  simp only [List.toArray] at BH
  have HB := hid BH
  clear BH
  go_enter Tryz.func17, Tryz.ntmps17
  go_wp2_with fail
  go_region_law (first | (go_simp; go_at_call 34; refine (CW.out _).mono ?_; rintro _ w1 ⟨rfl, hb1, hlt1, hf1⟩
                          have p1 : Below (w.heap.size + 1) (w.alloc (.cells #[.int .i64 0, .int .i64 k, .int .i64 wide] 23)) w1 := Below.trans (by first | exact (Below.refl _ _).drew | exact ((Below.refl _ _).drew).alloc (by simp) _ | exact ((Below.refl _ _).alloc (by simp) _).drew) (hb1.mono (by simp))
                          have g1 := HB.out.below p1 (by omega)
                          have f0 := (g1 0 _ rfl).1
                          have f0' := ((g1.below (sg_up w1 (.cells #[.nilFunc, .nilFunc, .nilFunc, .nilFunc] 68)) (by have := p1.size; simp at this; omega)) 0 _ rfl).1
                          have l0 := FnMapZ.k0 (hf1 w1 rfl)
                          have l0' := FnMapZ.k0 (ways_up hf1 hlt1 (sg_up w1 (.cells #[.nilFunc, .nilFunc, .nilFunc, .nilFunc] 68)))
                          simp at l0 l0'
                          first
                            | (have BW := (BoxL.new ((w.alloc (.cells #[.int .i64 0, .int .i64 k, .int .i64 wide] 23)).drew) [.nilFunc, .nilFunc, .nilFunc, .nilFunc] 68).below hb1 (by simp)
                               simp only [List.toArray] at BW
                               obtain ⟨x0, y0⟩ := BW 0 _ rfl
                               obtain ⟨x1, y1⟩ := BW 1 _ rfl
                               obtain ⟨x2, y2⟩ := BW 2 _ rfl
                               obtain ⟨x3, y3⟩ := BW 3 _ rfl
                               simp at BW x0 x1 x2 x3 y0 y1 y2 y3)
                            | (have BW := BoxL.new w1 [.nilFunc, .nilFunc, .nilFunc, .nilFunc] 68
                               simp only [List.toArray] at BW
                               obtain ⟨x0, y0⟩ := BW 0 _ rfl
                               obtain ⟨x1, y1⟩ := BW 1 _ rfl
                               obtain ⟨x2, y2⟩ := BW 2 _ rfl
                               obtain ⟨x3, y3⟩ := BW 3 _ rfl)
                            | fail) | fail)
  all_goals
    have hz1 := p1.size
    simp at hz1
    have kA : Below w.heap.size w w1 := Below.trans (sg_up w _) (p1.mono (by simp))
    clear l0 l0' f0 f0' CW hb1 hf1 x0 x1 x2 x3 y0 y1 y2 y3
    first
      | (obtain ⟨v, hv⟩ : ∃ v, w1.alloc (.cells #[.func (.func 67) #[] #[], .func (.func 68) #[] #[], .func (.func 69) #[] #[], .func (.func 70) #[] #[]] 68) = v := ⟨_, rfl⟩
         rw [hv]
         have B1 : BoxL v w1.heap.size [.func (.func 67) #[] #[], .func (.func 68) #[] #[], .func (.func 69) #[] #[], .func (.func 70) #[] #[]] := hv ▸ BoxL.new w1 [.func (.func 67) #[] #[], .func (.func 68) #[] #[], .func (.func 69) #[] #[], .func (.func 70) #[] #[]] 68
         have B2 : BoxL v w.heap.size [.int .i64 0, .int .i64 k, .int .i64 wide] := hv ▸ (g1.below (sg_up w1 _) (by omega))
         have kv : Below w.heap.size w v := hv ▸ (kA.trans ((sg_up w1 _).mono (by omega)))
         obtain ⟨d0, _⟩ := B1 0 _ rfl)
      | (obtain ⟨v, hv⟩ : ∃ v, (((w1.setCell ⟨w.heap.size + 1, 0, none⟩ (.func (.func 67) #[] #[])).setCell ⟨w.heap.size + 1, 1, none⟩ (.func (.func 68) #[] #[])).setCell ⟨w.heap.size + 1, 2, none⟩ (.func (.func 69) #[] #[])).setCell ⟨w.heap.size + 1, 3, none⟩ (.func (.func 70) #[] #[]) = v := ⟨_, rfl⟩
         rw [hv]
         have B1 : BoxL v (w.heap.size + 1) [.func (.func 67) #[] #[], .func (.func 68) #[] #[], .func (.func 69) #[] #[], .func (.func 70) #[] #[]] := hv ▸ BW.set4 (.func (.func 67) #[] #[]) (.func (.func 68) #[] #[]) (.func (.func 69) #[] #[]) (.func (.func 70) #[] #[])
         have B2 : BoxL v w.heap.size [.int .i64 0, .int .i64 k, .int .i64 wide] := hv ▸ ((((g1.other (by simp) _).other (by simp) _).other (by simp) _).other (by simp) _)
         have kv : Below w.heap.size w v := hv ▸ ((((kA.setCell (by simp) _).setCell (by simp) _).setCell (by simp) _).setCell (by simp) _)
         obtain ⟨d0, _⟩ := B1 0 _ rfl)
    obtain ⟨e0, _⟩ := B2 0 _ rfl
    obtain ⟨e1, _⟩ := B2 1 _ rfl
    obtain ⟨e2, _⟩ := B2 2 _ rfl
    clear BW B1 B2 g1 hv p1 kA HB hlt1
    by_cases h1 : dim < 1
    · have hF : E = 1 := HE.out.trans (if_neg (by omega))
      subst hF
      clear CM
      go_wp2_with fail
      go_ret
      exact ⟨rfl, kv⟩
    · by_cases h2 : dim > 4096
      · have hF : E = 1 := HE.out.trans (if_neg (by omega))
        subst hF
        clear CM
        go_wp2_with fail
        go_ret
        exact ⟨rfl, kv⟩
      · go_wp2_with fail
        refine (CM.out v).mono ?_
        rintro _ w3 ⟨rfl, hb3⟩
        have kw := kv.trans (hb3.mono kv.size)
        clear hb3 kv CM d0 e0 e1 e2
        cases R
        · have hF : E = 1 := HE.out.trans (if_neg (by simp))
          subst hF
          go_wp2_with fail
          go_ret
          exact ⟨rfl, kw⟩
        · have hF : E = 0 := HE.out.trans (if_pos (by simp; omega))
          subst hF
          go_wp2_with fail
          go_ret
          exact ⟨rfl, kw⟩
theorem pk_1 (k wide dim : Int) (R : Bool) (hR : R = true ↔ k ≥ 0 ∧ k ≤ dim ∧ wide = 0) (E : Int) (hE : E = if 1 ≤ dim ∧ dim ≤ 4096 ∧ R = true then 0 else 1) (w : World) :
    Calls Tryz.prog 17 #[.agg #[.int .i64 1, .int .i64 k, .int .i64 wide], .int .i64 dim] w fun e w' => e = .returned (.int .i64 E) ∧ Below w.heap.size w w' := by
  have HE := hid hE
  clear hE
  have CW := hid (fun W => wy_ways W)
  have CM := hid (fun W => wy_mtop 1 k wide dim R hR W)
  clear hR
  have BH := (BoxL.new w [.int .i64 1, .int .i64 k, .int .i64 wide] 23)
  simp only [List.toArray] at BH
  have HB := hid BH
  clear BH
  go_enter Tryz.func17, Tryz.ntmps17
  go_wp2_with fail
  go_region_law (first | (go_simp; go_at_call 34; refine (CW.out _).mono ?_; rintro _ w1 ⟨rfl, hb1, hlt1, hf1⟩
                          have p1 : Below (w.heap.size + 1) (w.alloc (.cells #[.int .i64 1, .int .i64 k, .int .i64 wide] 23)) w1 := Below.trans (by first | exact (Below.refl _ _).drew | exact ((Below.refl _ _).drew).alloc (by simp) _ | exact ((Below.refl _ _).alloc (by simp) _).drew) (hb1.mono (by simp))
                          have g1 := HB.out.below p1 (by omega)
                          have f0 := (g1 0 _ rfl).1
                          have f0' := ((g1.below (sg_up w1 (.cells #[.nilFunc, .nilFunc, .nilFunc, .nilFunc] 68)) (by have := p1.size; simp at this; omega)) 0 _ rfl).1
                          have l0 := FnMapZ.k1 (hf1 w1 rfl)
                          have l0' := FnMapZ.k1 (ways_up hf1 hlt1 (sg_up w1 (.cells #[.nilFunc, .nilFunc, .nilFunc, .nilFunc] 68)))
                          simp at l0 l0'
                          first
                            | (have BW := (BoxL.new ((w.alloc (.cells #[.int .i64 1, .int .i64 k, .int .i64 wide] 23)).drew) [.nilFunc, .nilFunc, .nilFunc, .nilFunc] 68).below hb1 (by simp)
                               simp only [List.toArray] at BW
                               obtain ⟨x0, y0⟩ := BW 0 _ rfl
                               obtain ⟨x1, y1⟩ := BW 1 _ rfl
                               obtain ⟨x2, y2⟩ := BW 2 _ rfl
                               obtain ⟨x3, y3⟩ := BW 3 _ rfl
                               simp at BW x0 x1 x2 x3 y0 y1 y2 y3)
                            | (have BW := BoxL.new w1 [.nilFunc, .nilFunc, .nilFunc, .nilFunc] 68
                               simp only [List.toArray] at BW
                               obtain ⟨x0, y0⟩ := BW 0 _ rfl
                               obtain ⟨x1, y1⟩ := BW 1 _ rfl
                               obtain ⟨x2, y2⟩ := BW 2 _ rfl
                               obtain ⟨x3, y3⟩ := BW 3 _ rfl)
                            | fail) | fail)
  all_goals
    have hz1 := p1.size
    simp at hz1
    have kA : Below w.heap.size w w1 := Below.trans (sg_up w _) (p1.mono (by simp))
    clear l0 l0' f0 f0' CW hb1 hf1 x0 x1 x2 x3 y0 y1 y2 y3
    first
      | (obtain ⟨v, hv⟩ : ∃ v, w1.alloc (.cells #[.func (.func 71) #[] #[], .func (.func 72) #[] #[], .func (.func 73) #[] #[], .func (.func 74) #[] #[]] 68) = v := ⟨_, rfl⟩
         rw [hv]
         have B1 : BoxL v w1.heap.size [.func (.func 71) #[] #[], .func (.func 72) #[] #[], .func (.func 73) #[] #[], .func (.func 74) #[] #[]] := hv ▸ BoxL.new w1 [.func (.func 71) #[] #[], .func (.func 72) #[] #[], .func (.func 73) #[] #[], .func (.func 74) #[] #[]] 68
         have B2 : BoxL v w.heap.size [.int .i64 1, .int .i64 k, .int .i64 wide] := hv ▸ (g1.below (sg_up w1 _) (by omega))
         have kv : Below w.heap.size w v := hv ▸ (kA.trans ((sg_up w1 _).mono (by omega)))
         obtain ⟨d0, _⟩ := B1 0 _ rfl)
      | (obtain ⟨v, hv⟩ : ∃ v, (((w1.setCell ⟨w.heap.size + 1, 0, none⟩ (.func (.func 71) #[] #[])).setCell ⟨w.heap.size + 1, 1, none⟩ (.func (.func 72) #[] #[])).setCell ⟨w.heap.size + 1, 2, none⟩ (.func (.func 73) #[] #[])).setCell ⟨w.heap.size + 1, 3, none⟩ (.func (.func 74) #[] #[]) = v := ⟨_, rfl⟩
         rw [hv]
         have B1 : BoxL v (w.heap.size + 1) [.func (.func 71) #[] #[], .func (.func 72) #[] #[], .func (.func 73) #[] #[], .func (.func 74) #[] #[]] := hv ▸ BW.set4 (.func (.func 71) #[] #[]) (.func (.func 72) #[] #[]) (.func (.func 73) #[] #[]) (.func (.func 74) #[] #[])
         have B2 : BoxL v w.heap.size [.int .i64 1, .int .i64 k, .int .i64 wide] := hv ▸ ((((g1.other (by simp) _).other (by simp) _).other (by simp) _).other (by simp) _)
         have kv : Below w.heap.size w v := hv ▸ ((((kA.setCell (by simp) _).setCell (by simp) _).setCell (by simp) _).setCell (by simp) _)
         obtain ⟨d0, _⟩ := B1 0 _ rfl)
    obtain ⟨e0, _⟩ := B2 0 _ rfl
    obtain ⟨e1, _⟩ := B2 1 _ rfl
    obtain ⟨e2, _⟩ := B2 2 _ rfl
    clear BW B1 B2 g1 hv p1 kA HB hlt1
    by_cases h1 : dim < 1
    · have hF : E = 1 := HE.out.trans (if_neg (by omega))
      subst hF
      clear CM
      go_wp2_with fail
      go_ret
      exact ⟨rfl, kv⟩
    · by_cases h2 : dim > 4096
      · have hF : E = 1 := HE.out.trans (if_neg (by omega))
        subst hF
        clear CM
        go_wp2_with fail
        go_ret
        exact ⟨rfl, kv⟩
      · go_wp2_with fail
        refine (CM.out v).mono ?_
        rintro _ w3 ⟨rfl, hb3⟩
        have kw := kv.trans (hb3.mono kv.size)
        clear hb3 kv CM d0 e0 e1 e2
        cases R
        · have hF : E = 1 := HE.out.trans (if_neg (by simp))
          subst hF
          go_wp2_with fail
          go_ret
          exact ⟨rfl, kw⟩
        · have hF : E = 0 := HE.out.trans (if_pos (by simp; omega))
          subst hF
          go_wp2_with fail
          go_ret
          exact ⟨rfl, kw⟩
theorem pk_2 (k wide dim : Int) (R : Bool) (hR : R = true ↔ k = 0 ∧ wide ≥ 1 ∧ wide ≤ 8) (E : Int) (hE : E = if 1 ≤ dim ∧ dim ≤ 4096 ∧ R = true then 0 else 1) (w : World) :
    Calls Tryz.prog 17 #[.agg #[.int .i64 2, .int .i64 k, .int .i64 wide], .int .i64 dim] w fun e w' => e = .returned (.int .i64 E) ∧ Below w.heap.size w w' := by
  have HE := hid hE
  clear hE
  have CW := hid (fun W => wy_ways W)
  have CM := hid (fun W => wy_mlevel 2 k wide dim R hR W)
  clear hR
  have BH := (BoxL.new w [.int .i64 2, .int .i64 k, .int .i64 wide] 23)
  simp only [List.toArray] at BH
  have HB := hid BH
  clear BH
  go_enter Tryz.func17, Tryz.ntmps17
  go_wp2_with fail
  go_region_law (first | (go_simp; go_at_call 34; refine (CW.out _).mono ?_; rintro _ w1 ⟨rfl, hb1, hlt1, hf1⟩
                          have p1 : Below (w.heap.size + 1) (w.alloc (.cells #[.int .i64 2, .int .i64 k, .int .i64 wide] 23)) w1 := Below.trans (by first | exact (Below.refl _ _).drew | exact ((Below.refl _ _).drew).alloc (by simp) _ | exact ((Below.refl _ _).alloc (by simp) _).drew) (hb1.mono (by simp))
                          have g1 := HB.out.below p1 (by omega)
                          have f0 := (g1 0 _ rfl).1
                          have f0' := ((g1.below (sg_up w1 (.cells #[.nilFunc, .nilFunc, .nilFunc, .nilFunc] 68)) (by have := p1.size; simp at this; omega)) 0 _ rfl).1
                          have l0 := FnMapZ.k2 (hf1 w1 rfl)
                          have l0' := FnMapZ.k2 (ways_up hf1 hlt1 (sg_up w1 (.cells #[.nilFunc, .nilFunc, .nilFunc, .nilFunc] 68)))
                          simp at l0 l0'
                          first
                            | (have BW := (BoxL.new ((w.alloc (.cells #[.int .i64 2, .int .i64 k, .int .i64 wide] 23)).drew) [.nilFunc, .nilFunc, .nilFunc, .nilFunc] 68).below hb1 (by simp)
                               simp only [List.toArray] at BW
                               obtain ⟨x0, y0⟩ := BW 0 _ rfl
                               obtain ⟨x1, y1⟩ := BW 1 _ rfl
                               obtain ⟨x2, y2⟩ := BW 2 _ rfl
                               obtain ⟨x3, y3⟩ := BW 3 _ rfl
                               simp at BW x0 x1 x2 x3 y0 y1 y2 y3)
                            | (have BW := BoxL.new w1 [.nilFunc, .nilFunc, .nilFunc, .nilFunc] 68
                               simp only [List.toArray] at BW
                               obtain ⟨x0, y0⟩ := BW 0 _ rfl
                               obtain ⟨x1, y1⟩ := BW 1 _ rfl
                               obtain ⟨x2, y2⟩ := BW 2 _ rfl
                               obtain ⟨x3, y3⟩ := BW 3 _ rfl)
                            | fail) | fail)
  all_goals
    have hz1 := p1.size
    simp at hz1
    have kA : Below w.heap.size w w1 := Below.trans (sg_up w _) (p1.mono (by simp))
    clear l0 l0' f0 f0' CW hb1 hf1 x0 x1 x2 x3 y0 y1 y2 y3
    first
      | (obtain ⟨v, hv⟩ : ∃ v, w1.alloc (.cells #[.func (.func 75) #[] #[], .func (.func 76) #[] #[], .func (.func 77) #[] #[], .func (.func 78) #[] #[]] 68) = v := ⟨_, rfl⟩
         rw [hv]
         have B1 : BoxL v w1.heap.size [.func (.func 75) #[] #[], .func (.func 76) #[] #[], .func (.func 77) #[] #[], .func (.func 78) #[] #[]] := hv ▸ BoxL.new w1 [.func (.func 75) #[] #[], .func (.func 76) #[] #[], .func (.func 77) #[] #[], .func (.func 78) #[] #[]] 68
         have B2 : BoxL v w.heap.size [.int .i64 2, .int .i64 k, .int .i64 wide] := hv ▸ (g1.below (sg_up w1 _) (by omega))
         have kv : Below w.heap.size w v := hv ▸ (kA.trans ((sg_up w1 _).mono (by omega)))
         obtain ⟨d0, _⟩ := B1 0 _ rfl)
      | (obtain ⟨v, hv⟩ : ∃ v, (((w1.setCell ⟨w.heap.size + 1, 0, none⟩ (.func (.func 75) #[] #[])).setCell ⟨w.heap.size + 1, 1, none⟩ (.func (.func 76) #[] #[])).setCell ⟨w.heap.size + 1, 2, none⟩ (.func (.func 77) #[] #[])).setCell ⟨w.heap.size + 1, 3, none⟩ (.func (.func 78) #[] #[]) = v := ⟨_, rfl⟩
         rw [hv]
         have B1 : BoxL v (w.heap.size + 1) [.func (.func 75) #[] #[], .func (.func 76) #[] #[], .func (.func 77) #[] #[], .func (.func 78) #[] #[]] := hv ▸ BW.set4 (.func (.func 75) #[] #[]) (.func (.func 76) #[] #[]) (.func (.func 77) #[] #[]) (.func (.func 78) #[] #[])
         have B2 : BoxL v w.heap.size [.int .i64 2, .int .i64 k, .int .i64 wide] := hv ▸ ((((g1.other (by simp) _).other (by simp) _).other (by simp) _).other (by simp) _)
         have kv : Below w.heap.size w v := hv ▸ ((((kA.setCell (by simp) _).setCell (by simp) _).setCell (by simp) _).setCell (by simp) _)
         obtain ⟨d0, _⟩ := B1 0 _ rfl)
    obtain ⟨e0, _⟩ := B2 0 _ rfl
    obtain ⟨e1, _⟩ := B2 1 _ rfl
    obtain ⟨e2, _⟩ := B2 2 _ rfl
    clear BW B1 B2 g1 hv p1 kA HB hlt1
    by_cases h1 : dim < 1
    · have hF : E = 1 := HE.out.trans (if_neg (by omega))
      subst hF
      clear CM
      go_wp2_with fail
      go_ret
      exact ⟨rfl, kv⟩
    · by_cases h2 : dim > 4096
      · have hF : E = 1 := HE.out.trans (if_neg (by omega))
        subst hF
        clear CM
        go_wp2_with fail
        go_ret
        exact ⟨rfl, kv⟩
      · go_wp2_with fail
        refine (CM.out v).mono ?_
        rintro _ w3 ⟨rfl, hb3⟩
        have kw := kv.trans (hb3.mono kv.size)
        clear hb3 kv CM d0 e0 e1 e2
        cases R
        · have hF : E = 1 := HE.out.trans (if_neg (by simp))
          subst hF
          go_wp2_with fail
          go_ret
          exact ⟨rfl, kw⟩
        · have hF : E = 0 := HE.out.trans (if_pos (by simp; omega))
          subst hF
          go_wp2_with fail
          go_ret
          exact ⟨rfl, kw⟩
theorem pk_3 (k wide dim : Int) (R : Bool) (hR : R = true ↔ k = 0 ∧ wide = 0) (E : Int) (hE : E = if 1 ≤ dim ∧ dim ≤ 4096 ∧ R = true then 0 else 1) (w : World) :
    Calls Tryz.prog 17 #[.agg #[.int .i64 3, .int .i64 k, .int .i64 wide], .int .i64 dim] w fun e w' => e = .returned (.int .i64 E) ∧ Below w.heap.size w w' := by
  have HE := hid hE
  clear hE
  have CW := hid (fun W => wy_ways W)
  have CM := hid (fun W => wy_bare 3 k wide dim R hR W)
  clear hR
  have BH := (BoxL.new w [.int .i64 3, .int .i64 k, .int .i64 wide] 23)
  simp only [List.toArray] at BH
  have HB := hid BH
  clear BH
  go_enter Tryz.func17, Tryz.ntmps17
  go_wp2_with fail
  go_region_law (first | (go_simp; go_at_call 34; refine (CW.out _).mono ?_; rintro _ w1 ⟨rfl, hb1, hlt1, hf1⟩
                          have p1 : Below (w.heap.size + 1) (w.alloc (.cells #[.int .i64 3, .int .i64 k, .int .i64 wide] 23)) w1 := Below.trans (by first | exact (Below.refl _ _).drew | exact ((Below.refl _ _).drew).alloc (by simp) _ | exact ((Below.refl _ _).alloc (by simp) _).drew) (hb1.mono (by simp))
                          have g1 := HB.out.below p1 (by omega)
                          have f0 := (g1 0 _ rfl).1
                          have f0' := ((g1.below (sg_up w1 (.cells #[.nilFunc, .nilFunc, .nilFunc, .nilFunc] 68)) (by have := p1.size; simp at this; omega)) 0 _ rfl).1
                          have l0 := FnMapZ.k3 (hf1 w1 rfl)
                          have l0' := FnMapZ.k3 (ways_up hf1 hlt1 (sg_up w1 (.cells #[.nilFunc, .nilFunc, .nilFunc, .nilFunc] 68)))
                          simp at l0 l0'
                          first
                            | (have BW := (BoxL.new ((w.alloc (.cells #[.int .i64 3, .int .i64 k, .int .i64 wide] 23)).drew) [.nilFunc, .nilFunc, .nilFunc, .nilFunc] 68).below hb1 (by simp)
                               simp only [List.toArray] at BW
                               obtain ⟨x0, y0⟩ := BW 0 _ rfl
                               obtain ⟨x1, y1⟩ := BW 1 _ rfl
                               obtain ⟨x2, y2⟩ := BW 2 _ rfl
                               obtain ⟨x3, y3⟩ := BW 3 _ rfl
                               simp at BW x0 x1 x2 x3 y0 y1 y2 y3)
                            | (have BW := BoxL.new w1 [.nilFunc, .nilFunc, .nilFunc, .nilFunc] 68
                               simp only [List.toArray] at BW
                               obtain ⟨x0, y0⟩ := BW 0 _ rfl
                               obtain ⟨x1, y1⟩ := BW 1 _ rfl
                               obtain ⟨x2, y2⟩ := BW 2 _ rfl
                               obtain ⟨x3, y3⟩ := BW 3 _ rfl)
                            | fail) | fail)
  all_goals
    have hz1 := p1.size
    simp at hz1
    have kA : Below w.heap.size w w1 := Below.trans (sg_up w _) (p1.mono (by simp))
    clear l0 l0' f0 f0' CW hb1 hf1 x0 x1 x2 x3 y0 y1 y2 y3
    first
      | (obtain ⟨v, hv⟩ : ∃ v, w1.alloc (.cells #[.func (.func 67) #[] #[], .func (.func 79) #[] #[], .func (.func 80) #[] #[], .func (.func 81) #[] #[]] 68) = v := ⟨_, rfl⟩
         rw [hv]
         have B1 : BoxL v w1.heap.size [.func (.func 67) #[] #[], .func (.func 79) #[] #[], .func (.func 80) #[] #[], .func (.func 81) #[] #[]] := hv ▸ BoxL.new w1 [.func (.func 67) #[] #[], .func (.func 79) #[] #[], .func (.func 80) #[] #[], .func (.func 81) #[] #[]] 68
         have B2 : BoxL v w.heap.size [.int .i64 3, .int .i64 k, .int .i64 wide] := hv ▸ (g1.below (sg_up w1 _) (by omega))
         have kv : Below w.heap.size w v := hv ▸ (kA.trans ((sg_up w1 _).mono (by omega)))
         obtain ⟨d0, _⟩ := B1 0 _ rfl)
      | (obtain ⟨v, hv⟩ : ∃ v, (((w1.setCell ⟨w.heap.size + 1, 0, none⟩ (.func (.func 67) #[] #[])).setCell ⟨w.heap.size + 1, 1, none⟩ (.func (.func 79) #[] #[])).setCell ⟨w.heap.size + 1, 2, none⟩ (.func (.func 80) #[] #[])).setCell ⟨w.heap.size + 1, 3, none⟩ (.func (.func 81) #[] #[]) = v := ⟨_, rfl⟩
         rw [hv]
         have B1 : BoxL v (w.heap.size + 1) [.func (.func 67) #[] #[], .func (.func 79) #[] #[], .func (.func 80) #[] #[], .func (.func 81) #[] #[]] := hv ▸ BW.set4 (.func (.func 67) #[] #[]) (.func (.func 79) #[] #[]) (.func (.func 80) #[] #[]) (.func (.func 81) #[] #[])
         have B2 : BoxL v w.heap.size [.int .i64 3, .int .i64 k, .int .i64 wide] := hv ▸ ((((g1.other (by simp) _).other (by simp) _).other (by simp) _).other (by simp) _)
         have kv : Below w.heap.size w v := hv ▸ ((((kA.setCell (by simp) _).setCell (by simp) _).setCell (by simp) _).setCell (by simp) _)
         obtain ⟨d0, _⟩ := B1 0 _ rfl)
    obtain ⟨e0, _⟩ := B2 0 _ rfl
    obtain ⟨e1, _⟩ := B2 1 _ rfl
    obtain ⟨e2, _⟩ := B2 2 _ rfl
    clear BW B1 B2 g1 hv p1 kA HB hlt1
    by_cases h1 : dim < 1
    · have hF : E = 1 := HE.out.trans (if_neg (by omega))
      subst hF
      clear CM
      go_wp2_with fail
      go_ret
      exact ⟨rfl, kv⟩
    · by_cases h2 : dim > 4096
      · have hF : E = 1 := HE.out.trans (if_neg (by omega))
        subst hF
        clear CM
        go_wp2_with fail
        go_ret
        exact ⟨rfl, kv⟩
      · go_wp2_with fail
        refine (CM.out v).mono ?_
        rintro _ w3 ⟨rfl, hb3⟩
        have kw := kv.trans (hb3.mono kv.size)
        clear hb3 kv CM d0 e0 e1 e2
        cases R
        · have hF : E = 1 := HE.out.trans (if_neg (by simp))
          subst hF
          go_wp2_with fail
          go_ret
          exact ⟨rfl, kw⟩
        · have hF : E = 0 := HE.out.trans (if_pos (by simp; omega))
          subst hF
          go_wp2_with fail
          go_ret
          exact ⟨rfl, kw⟩
theorem pk_x (sch k wide dim : Int) (hs : I64 sch) (n0 : sch ≠ 0) (n1 : sch ≠ 1) (n2 : sch ≠ 2) (n3 : sch ≠ 3) (w : World) :
    Calls Tryz.prog 17 #[.agg #[.int .i64 sch, .int .i64 k, .int .i64 wide], .int .i64 dim] w fun e w' => e = .returned (.int .i64 1) ∧ Below w.heap.size w w' := by
  have CW := hid (fun W => show Calls Tryz.prog 34 #[] W fun e w' => e = .returned (.map (some W.heap.size)) ∧ Below W.heap.size W w' ∧ W.heap.size < w'.heap.size ∧ (∀ V : World, V.heap[W.heap.size]? = w'.heap[W.heap.size]? → WaysAt W.heap.size V) from wy_ways W)
  have hs1 : -9223372036854775808 ≤ sch := by unfold I64 at hs; omega
  have hs2 : sch ≤ 9223372036854775807 := by unfold I64 at hs; omega
  have HX := hid (fun (b : Nat) (V : World) (h : WaysAt b V) => h.kx sch hs1 hs2 n0 n1 n2 n3)
  clear hs hs1 hs2 n0 n1 n2 n3
  have BH := (BoxL.new w [.int .i64 sch, .int .i64 k, .int .i64 wide] 23)
  simp only [List.toArray] at BH
  have HB := hid BH
  clear BH
  go_enter Tryz.func17, Tryz.ntmps17
  go_wp2_with fail
  go_region_law (first | (go_simp; go_at_call 34; refine (CW.out _).mono ?_; rintro _ w1 ⟨rfl, hb1, hlt1, hf1⟩
                          have p1 : Below (w.heap.size + 1) (w.alloc (.cells #[.int .i64 sch, .int .i64 k, .int .i64 wide] 23)) w1 := Below.trans (by first | exact (Below.refl _ _).drew | exact ((Below.refl _ _).drew).alloc (by simp) _ | exact ((Below.refl _ _).alloc (by simp) _).drew) (hb1.mono (by simp))
                          have g1 := HB.out.below p1 (by omega)
                          have f0 := (g1 0 _ rfl).1
                          have f0' := ((g1.below (sg_up w1 (.cells #[.nilFunc, .nilFunc, .nilFunc, .nilFunc] 68)) (by have := p1.size; simp at this; omega)) 0 _ rfl).1
                          have l0 := HX.out _ _ (hf1 w1 rfl)
                          have l0' := HX.out _ _ (ways_up hf1 hlt1 (sg_up w1 (.cells #[.nilFunc, .nilFunc, .nilFunc, .nilFunc] 68)))
                          simp at l0 l0'
                          first
                            | (have BW := (BoxL.new ((w.alloc (.cells #[.int .i64 sch, .int .i64 k, .int .i64 wide] 23)).drew) [.nilFunc, .nilFunc, .nilFunc, .nilFunc] 68).below hb1 (by simp)
                               simp only [List.toArray] at BW
                               obtain ⟨x0, y0⟩ := BW 0 _ rfl
                               obtain ⟨x1, y1⟩ := BW 1 _ rfl
                               obtain ⟨x2, y2⟩ := BW 2 _ rfl
                               obtain ⟨x3, y3⟩ := BW 3 _ rfl
                               simp at BW x0 x1 x2 x3 y0 y1 y2 y3)
                            | (have BW := BoxL.new w1 [.nilFunc, .nilFunc, .nilFunc, .nilFunc] 68
                               simp only [List.toArray] at BW
                               obtain ⟨x0, y0⟩ := BW 0 _ rfl
                               obtain ⟨x1, y1⟩ := BW 1 _ rfl
                               obtain ⟨x2, y2⟩ := BW 2 _ rfl
                               obtain ⟨x3, y3⟩ := BW 3 _ rfl)
                            | fail) | fail)
  all_goals
    have hz1 := p1.size
    simp at hz1
    have kA : Below w.heap.size w w1 := Below.trans (sg_up w _) (p1.mono (by simp))
    clear l0 l0' f0 f0' CW hb1 hf1 x0 x1 x2 x3 y0 y1 y2 y3
    first
      | (obtain ⟨v, hv⟩ : ∃ v, w1.alloc (.cells #[.nilFunc, .nilFunc, .nilFunc, .nilFunc] 68) = v := ⟨_, rfl⟩
         rw [hv]
         have B1 : BoxL v w1.heap.size [.nilFunc, .nilFunc, .nilFunc, .nilFunc] := hv ▸ BoxL.new w1 [.nilFunc, .nilFunc, .nilFunc, .nilFunc] 68
         have B2 : BoxL v w.heap.size [.int .i64 sch, .int .i64 k, .int .i64 wide] := hv ▸ (g1.below (sg_up w1 _) (by omega))
         have kv : Below w.heap.size w v := hv ▸ (kA.trans ((sg_up w1 _).mono (by omega)))
         obtain ⟨d0, _⟩ := B1 0 _ rfl)
      | (obtain ⟨v, hv⟩ : ∃ v, (((w1.setCell ⟨w.heap.size + 1, 0, none⟩ (.nilFunc)).setCell ⟨w.heap.size + 1, 1, none⟩ (.nilFunc)).setCell ⟨w.heap.size + 1, 2, none⟩ (.nilFunc)).setCell ⟨w.heap.size + 1, 3, none⟩ (.nilFunc) = v := ⟨_, rfl⟩
         rw [hv]
         have B1 : BoxL v (w.heap.size + 1) [.nilFunc, .nilFunc, .nilFunc, .nilFunc] := hv ▸ BW.set4 (.nilFunc) (.nilFunc) (.nilFunc) (.nilFunc)
         have B2 : BoxL v w.heap.size [.int .i64 sch, .int .i64 k, .int .i64 wide] := hv ▸ ((((g1.other (by simp) _).other (by simp) _).other (by simp) _).other (by simp) _)
         have kv : Below w.heap.size w v := hv ▸ ((((kA.setCell (by simp) _).setCell (by simp) _).setCell (by simp) _).setCell (by simp) _)
         obtain ⟨d0, _⟩ := B1 0 _ rfl)
    obtain ⟨e0, _⟩ := B2 0 _ rfl
    obtain ⟨e1, _⟩ := B2 1 _ rfl
    obtain ⟨e2, _⟩ := B2 2 _ rfl
    clear BW B1 B2 g1 hv p1 kA HB hlt1
    go_wp2_with fail
    go_ret
    exact ⟨rfl, kv⟩
theorem pn_Check (sch k wide dim : Int) (hs : I64 sch) (w : World) :
    Calls Tryz.prog 17 #[.agg #[.int .i64 sch, .int .i64 k, .int .i64 wide], .int .i64 dim] w fun e w' => e = .returned (.int .i64 (howE sch k wide dim)) ∧ Below w.heap.size w w' := by
  by_cases s0 : sch = 0
  · subst s0
    have h := pk_0 k wide dim (decide (k = 0 ∧ wide = 0)) (by simp) _ rfl w
    rw [show howE 0 k wide dim = (if 1 ≤ dim ∧ dim ≤ 4096 ∧ decide (k = 0 ∧ wide = 0) = true then 0 else 1) from by unfold howE howP; simp <;> (congr 1; apply propext; omega)]
    exact h
  · skip
    by_cases s1 : sch = 1
    · subst s1
      have h := pk_1 k wide dim (decide (k ≥ 0 ∧ k ≤ dim ∧ wide = 0)) (by simp) _ rfl w
      rw [show howE 1 k wide dim = (if 1 ≤ dim ∧ dim ≤ 4096 ∧ decide (k ≥ 0 ∧ k ≤ dim ∧ wide = 0) = true then 0 else 1) from by unfold howE howP; simp <;> (congr 1; apply propext; omega)]
      exact h
    · skip
      by_cases s2 : sch = 2
      · subst s2
        have h := pk_2 k wide dim (decide (k = 0 ∧ wide ≥ 1 ∧ wide ≤ 8)) (by simp) _ rfl w
        rw [show howE 2 k wide dim = (if 1 ≤ dim ∧ dim ≤ 4096 ∧ decide (k = 0 ∧ wide ≥ 1 ∧ wide ≤ 8) = true then 0 else 1) from by unfold howE howP; simp <;> (congr 1; apply propext; omega)]
        exact h
      · skip
        by_cases s3 : sch = 3
        · subst s3
          have h := pk_3 k wide dim (decide (k = 0 ∧ wide = 0)) (by simp) _ rfl w
          rw [show howE 3 k wide dim = (if 1 ≤ dim ∧ dim ≤ 4096 ∧ decide (k = 0 ∧ wide = 0) = true then 0 else 1) from by unfold howE howP; simp <;> (congr 1; apply propext; omega)]
          exact h
        · skip
          rw [howE_no (by unfold howP; omega)]
          exact pk_x sch k wide dim hs s0 s1 s2 s3 w
end Go.Proofs.YtecgbelgoomneaaGreat
