
/- YPsA: texts joined: PsA. -/
import Derived.Test.YtecgbelgoomneaaGreatYb
import Derived.Test.YtecgbelgoomneaaGreatYQuD
import Derived.Test.YtecgbelgoomneaaGreatYe
import Derived.Test.YtecgbelgoomneaaGreatYf
/- Whether a way may be; pressed by way: the document's. -/
namespace Go.Proofs.YtecgbelgoomneaaGreat
open Go.RowKit
set_option maxHeartbeats 4000000
set_option maxRecDepth 100000
set_option linter.unusedVariables false
theorem box2 (w : World) (o : Obj) (L : List Value) (t : TypeId) : BoxL ((w.alloc o).alloc (.cells L.toArray t)) (w.heap.size + 1) L := by
  have h := BoxL.new (w.alloc o) L t
  rw [show (w.alloc o).heap.size = w.heap.size + 1 by simp] at h
  exact h
theorem sg_up (w : World) (o : Obj) : Below w.heap.size w (w.alloc o) := (Below.refl _ _).alloc (Nat.le_refl _) o
theorem howE_in {sch k wide dim : Int} (h : howP sch k wide dim) : howE sch k wide dim = 0 := if_pos h
theorem howE_no {sch k wide dim : Int} (h : ¬ howP sch k wide dim) : howE sch k wide dim = 1 := if_neg h
theorem ref_Check12 (sch k wide dim : Int) (w : World) :
    Calls Tryz.prog 18 #[.agg #[.int .i64 sch, .int .i64 k, .int .i64 wide], .int .i64 dim] w fun e w' => e = .returned (.int .i64 (howE sch k wide dim)) ∧ Below w.heap.size w w' := by
  have HI := hid (fun h => howE_in (sch := sch) (k := k) (wide := wide) (dim := dim) h)
  have HN := hid (fun h => howE_no (sch := sch) (k := k) (wide := wide) (dim := dim) h)
  obtain ⟨E, hE⟩ : ∃ E, howE sch k wide dim = E := ⟨_, rfl⟩
  rw [hE] at HI HN ⊢
  clear hE
  by_cases s0 : sch = 0
  · subst s0
    by_cases h1 : dim ≥ 1
    · skip
      by_cases h2 : dim ≤ 4096
      · skip
        by_cases h3 : k = 0
        · subst h3
          by_cases h4 : wide = 0
          · subst h4
            have hF : E = 0 := HI.out (by unfold howP; omega)
            subst hF
            clear HI HN
            go_enter Tryz.func18, Tryz.ntmps18
            go_wp2_with fail
            go_ret
            exact ⟨rfl, by go_grown⟩
          · have t4 : (wide == 0) = false := beq_eq_false_iff_ne.2 h4
            have hF : E = 1 := HN.out (by unfold howP; omega)
            subst hF
            clear HI HN
            go_enter Tryz.func18, Tryz.ntmps18
            go_wp2_with fail
            go_ret
            exact ⟨rfl, by go_grown⟩
        · have t3 : (k == 0) = false := beq_eq_false_iff_ne.2 h3
          have hF : E = 1 := HN.out (by unfold howP; omega)
          subst hF
          clear HI HN
          go_enter Tryz.func18, Tryz.ntmps18
          go_wp2_with fail
          go_ret
          exact ⟨rfl, by go_grown⟩
      · skip
        have hF : E = 1 := HN.out (by unfold howP; omega)
        subst hF
        clear HI HN
        go_enter Tryz.func18, Tryz.ntmps18
        go_wp2_with fail
        go_ret
        exact ⟨rfl, by go_grown⟩
    · skip
      have hF : E = 1 := HN.out (by unfold howP; omega)
      subst hF
      clear HI HN
      go_enter Tryz.func18, Tryz.ntmps18
      go_wp2_with fail
      go_ret
      exact ⟨rfl, by go_grown⟩
  · have u0 : (sch == 0) = false := beq_eq_false_iff_ne.2 s0
    by_cases s1 : sch = 1
    · subst s1
      by_cases h1 : dim ≥ 1
      · skip
        by_cases h2 : dim ≤ 4096
        · skip
          by_cases h3 : k ≥ 0
          · skip
            by_cases h4 : k ≤ dim
            · skip
              by_cases h5 : wide = 0
              · subst h5
                have hF : E = 0 := HI.out (by unfold howP; omega)
                subst hF
                clear HI HN
                go_enter Tryz.func18, Tryz.ntmps18
                go_wp2_with fail
                go_ret
                exact ⟨rfl, by go_grown⟩
              · have t5 : (wide == 0) = false := beq_eq_false_iff_ne.2 h5
                have hF : E = 1 := HN.out (by unfold howP; omega)
                subst hF
                clear HI HN
                go_enter Tryz.func18, Tryz.ntmps18
                go_wp2_with fail
                go_ret
                exact ⟨rfl, by go_grown⟩
            · skip
              have hF : E = 1 := HN.out (by unfold howP; omega)
              subst hF
              clear HI HN
              go_enter Tryz.func18, Tryz.ntmps18
              go_wp2_with fail
              go_ret
              exact ⟨rfl, by go_grown⟩
          · skip
            have hF : E = 1 := HN.out (by unfold howP; omega)
            subst hF
            clear HI HN
            go_enter Tryz.func18, Tryz.ntmps18
            go_wp2_with fail
            go_ret
            exact ⟨rfl, by go_grown⟩
        · skip
          have hF : E = 1 := HN.out (by unfold howP; omega)
          subst hF
          clear HI HN
          go_enter Tryz.func18, Tryz.ntmps18
          go_wp2_with fail
          go_ret
          exact ⟨rfl, by go_grown⟩
      · skip
        have hF : E = 1 := HN.out (by unfold howP; omega)
        subst hF
        clear HI HN
        go_enter Tryz.func18, Tryz.ntmps18
        go_wp2_with fail
        go_ret
        exact ⟨rfl, by go_grown⟩
    · have u1 : (sch == 1) = false := beq_eq_false_iff_ne.2 s1
      by_cases s2 : sch = 2
      · subst s2
        by_cases h1 : dim ≥ 1
        · skip
          by_cases h2 : dim ≤ 4096
          · skip
            by_cases h3 : k = 0
            · subst h3
              by_cases h4 : wide ≥ 1
              · skip
                by_cases h5 : wide ≤ 8
                · skip
                  have hF : E = 0 := HI.out (by unfold howP; omega)
                  subst hF
                  clear HI HN
                  go_enter Tryz.func18, Tryz.ntmps18
                  go_wp2_with fail
                  go_ret
                  exact ⟨rfl, by go_grown⟩
                · skip
                  have hF : E = 1 := HN.out (by unfold howP; omega)
                  subst hF
                  clear HI HN
                  go_enter Tryz.func18, Tryz.ntmps18
                  go_wp2_with fail
                  go_ret
                  exact ⟨rfl, by go_grown⟩
              · skip
                have hF : E = 1 := HN.out (by unfold howP; omega)
                subst hF
                clear HI HN
                go_enter Tryz.func18, Tryz.ntmps18
                go_wp2_with fail
                go_ret
                exact ⟨rfl, by go_grown⟩
            · have t3 : (k == 0) = false := beq_eq_false_iff_ne.2 h3
              have hF : E = 1 := HN.out (by unfold howP; omega)
              subst hF
              clear HI HN
              go_enter Tryz.func18, Tryz.ntmps18
              go_wp2_with fail
              go_ret
              exact ⟨rfl, by go_grown⟩
          · skip
            have hF : E = 1 := HN.out (by unfold howP; omega)
            subst hF
            clear HI HN
            go_enter Tryz.func18, Tryz.ntmps18
            go_wp2_with fail
            go_ret
            exact ⟨rfl, by go_grown⟩
        · skip
          have hF : E = 1 := HN.out (by unfold howP; omega)
          subst hF
          clear HI HN
          go_enter Tryz.func18, Tryz.ntmps18
          go_wp2_with fail
          go_ret
          exact ⟨rfl, by go_grown⟩
      · have u2 : (sch == 2) = false := beq_eq_false_iff_ne.2 s2
        by_cases s3 : sch = 3
        · subst s3
          by_cases h1 : dim ≥ 1
          · skip
            by_cases h2 : dim ≤ 4096
            · skip
              by_cases h3 : k = 0
              · subst h3
                by_cases h4 : wide = 0
                · subst h4
                  have hF : E = 0 := HI.out (by unfold howP; omega)
                  subst hF
                  clear HI HN
                  go_enter Tryz.func18, Tryz.ntmps18
                  go_wp2_with fail
                  go_ret
                  exact ⟨rfl, by go_grown⟩
                · have t4 : (wide == 0) = false := beq_eq_false_iff_ne.2 h4
                  have hF : E = 1 := HN.out (by unfold howP; omega)
                  subst hF
                  clear HI HN
                  go_enter Tryz.func18, Tryz.ntmps18
                  go_wp2_with fail
                  go_ret
                  exact ⟨rfl, by go_grown⟩
              · have t3 : (k == 0) = false := beq_eq_false_iff_ne.2 h3
                have hF : E = 1 := HN.out (by unfold howP; omega)
                subst hF
                clear HI HN
                go_enter Tryz.func18, Tryz.ntmps18
                go_wp2_with fail
                go_ret
                exact ⟨rfl, by go_grown⟩
            · skip
              have hF : E = 1 := HN.out (by unfold howP; omega)
              subst hF
              clear HI HN
              go_enter Tryz.func18, Tryz.ntmps18
              go_wp2_with fail
              go_ret
              exact ⟨rfl, by go_grown⟩
          · skip
            have hF : E = 1 := HN.out (by unfold howP; omega)
            subst hF
            clear HI HN
            go_enter Tryz.func18, Tryz.ntmps18
            go_wp2_with fail
            go_ret
            exact ⟨rfl, by go_grown⟩
        · have u3 : (sch == 3) = false := beq_eq_false_iff_ne.2 s3
          have hF : E = 1 := HN.out (by unfold howP; omega)
          subst hF
          clear HI HN
          by_cases d1 : dim ≥ 1
          · by_cases d2 : dim ≤ 4096
            · go_enter Tryz.func18, Tryz.ntmps18
              go_wp2_with fail
              go_ret
              exact ⟨rfl, by go_grown⟩
            · go_enter Tryz.func18, Tryz.ntmps18
              go_wp2_with fail
              go_ret
              exact ⟨rfl, by go_grown⟩
          · go_enter Tryz.func18, Tryz.ntmps18
            go_wp2_with fail
            go_ret
            exact ⟨rfl, by go_grown⟩
/-- A call's answer: a pressed vector, its lists in memory of the call's own, and an error. -/
def OwnSS (base : Nat) (s : SentV) (er : Int) (w : World) (e : Ending) (w' : World) : Prop :=
  ∃ p : SentP, e = .returned (.tuple #[encT s p, .int .i64 er]) ∧
    (w'.ownsRow base 3 1 (.slice p.AL s.L.length p.cL) s.L.length (s.L.map (Value.int .i64)) ∧ w'.ownsRow base 2 1 (.slice p.AV s.V.length p.cV) s.V.length (s.V.map (Value.int .i64)) ∧
     w'.ownsRow base 25 1 (.slice p.AE s.lev.length p.cE) s.lev.length (s.lev.map (Value.int .u64)) ∧ w'.ownsRow base 4 1 (.slice p.AN s.neg.length p.cN) s.neg.length (s.neg.map Value.bool)) ∧ Below base w w'
/-- Its lists lie so. -/
def OwnL (w' : World) (base : Nat) (s : SentV) (p : SentP) : Prop :=
  w'.ownsRow base 3 1 (.slice p.AL s.L.length p.cL) s.L.length (s.L.map (Value.int .i64)) ∧ w'.ownsRow base 2 1 (.slice p.AV s.V.length p.cV) s.V.length (s.V.map (Value.int .i64)) ∧
     w'.ownsRow base 25 1 (.slice p.AE s.lev.length p.cE) s.lev.length (s.lev.map (Value.int .u64)) ∧ w'.ownsRow base 4 1 (.slice p.AN s.neg.length p.cN) s.neg.length (s.neg.map Value.bool)
theorem OwnL.rd {w' : World} {base : Nat} {s : SentV} {p : SentP} (h : OwnL w' base s p) : RdS w' w'.heap.size s p := ⟨own_rd h.1, own_rd h.2.1, own_rd h.2.2.1, own_rd h.2.2.2⟩
theorem OwnL.base {w' : World} {base b : Nat} {s : SentV} {p : SentP} (h : OwnL w' base s p) (hb : b ≤ base) : OwnL w' b s p := ⟨own_base h.1 hb, own_base h.2.1 hb, own_base h.2.2.1 hb, own_base h.2.2.2 hb⟩
theorem OwnL.on {w w' : World} {base : Nat} {s : SentV} {p : SentP} (h : OwnL w base s p) (hb : Below w.heap.size w w') : OwnL w' base s p := ⟨own_on h.1 hb, own_on h.2.1 hb, own_on h.2.2.1 hb, own_on h.2.2.2 hb⟩
theorem OwnL.set {w : World} {base : Nat} {s : SentV} {p : SentP} (h : OwnL w base s p) {q : Addr} (hq : q.block < base) (u : Value) : OwnL (w.setCell q u) base s p := ⟨own_set h.1 hq u, own_set h.2.1 hq u, own_set h.2.2.1 hq u, own_set h.2.2.2 hq u⟩
theorem OwnL.zero (w : World) (base : Nat) : OwnL w base zeroS zeroP := ⟨own_nil _ _ _, own_nil _ _ _, own_nil _ _ _, own_nil _ _ _⟩
theorem ownt_l {w' : World} {base : Nat} {s : SentV} {A A' : Option Addr} {c c' : Nat} (h1 : s.lev = []) (h2 : s.neg = []) (o1 : w'.ownsRow base 3 1 (.slice A s.L.length c) s.L.length (s.L.map (Value.int .i64))) (o2 : w'.ownsRow base 2 1 (.slice A' s.V.length c') s.V.length (s.V.map (Value.int .i64))) :
    OwnL w' base s ⟨A, c, A', c', none, 0, none, 0⟩ := ⟨o1, o2, by rw [h1]; exact own_nil _ _ _, by rw [h2]; exact own_nil _ _ _⟩
theorem ownl_l {w' : World} {base : Nat} {s : SentV} {A A' : Option Addr} {c c' : Nat} (h1 : s.L = []) (h2 : s.V = []) (o1 : w'.ownsRow base 25 1 (.slice A s.lev.length c) s.lev.length (s.lev.map (Value.int .u64))) (o2 : w'.ownsRow base 4 1 (.slice A' s.neg.length c') s.neg.length (s.neg.map Value.bool)) :
    OwnL w' base s ⟨none, 0, none, 0, A, c, A', c'⟩ := ⟨by rw [h1]; exact own_nil _ _ _, by rw [h2]; exact own_nil _ _ _, o1, o2⟩
theorem owng_l {w' : World} {base : Nat} {s : SentV} {A : Option Addr} {c : Nat} (h1 : s.L = []) (h2 : s.V = []) (h3 : s.lev = []) (o1 : w'.ownsRow base 4 1 (.slice A s.neg.length c) s.neg.length (s.neg.map Value.bool)) :
    OwnL w' base s ⟨none, 0, none, 0, none, 0, A, c⟩ := ⟨by rw [h1]; exact own_nil _ _ _, by rw [h2]; exact own_nil _ _ _, by rw [h3]; exact own_nil _ _ _, o1⟩
/-- What is pressed by the way itself. -/
theorem way_S {sch k wide : Int} {v : List Int} {s : Nat} {n : List Int} (h : ¬ wayE sch k wide v = 0) : wayS sch k wide v s n = zeroS := by
  unfold wayE at h
  unfold wayS
  by_cases h1 : sch = 1
  · rw [if_pos h1] at h ⊢
    exact if_neg h
  · rw [if_neg h1] at h ⊢
    by_cases h2 : sch = 2
    · rw [if_pos h2] at h ⊢
      exact if_neg h
    · rw [if_neg h2] at h ⊢
      by_cases h3 : sch = 3
      · rw [if_pos h3] at h ⊢
        exact if_neg h
      · rw [if_neg h3] at h
        exact absurd rfl h
theorem pp_way {sch k wide : Int} {v : List Int} {s : Nat} {n : List Int} (h1 : ¬ 4096 < v.length) (h2 : howE sch k wide v.length = 0) : ppE sch k wide v = wayE sch k wide v ∧ ppS sch k wide v s n = wayS sch k wide v s n := by
  have e : ppE sch k wide v = wayE sch k wide v := by unfold ppE; rw [if_neg h1, if_neg (by simp [h2])]
  refine ⟨e, ?_⟩
  unfold ppS
  rw [e]
  by_cases h : wayE sch k wide v = 0
  · rw [if_pos h]
  · rw [if_neg h, way_S h]

theorem ref_Press12 {A B : Option Addr} {c d : Nat} (sch k wide : Int) (hwd : I64 wide) (v : List Int) (uv : ∀ x ∈ v, I64 x) (hl : v.length ≤ 9223372036854775807) (s : Nat) (hs : s < 2 ^ 64) (n : List Int) (un : ∀ x ∈ n, I64 x) (hn : n.length ≤ 1000) (w : World) (ra : Rd (Value.int .i64) w w.heap.size A v) (rb : Rd (Value.int .i64) w w.heap.size B n) :
    Calls Tryz.prog 12 #[.agg #[.int .i64 sch, .int .i64 k, .int .i64 wide], .slice A v.length c, .int .u64 (s : Int), .slice B n.length d] w (OwnSS w.heap.size (ppS sch k wide v s n) (ppE sch k wide v) w) := by
  have CC := hid (fun W => ref_Check12 sch k wide v.length W)
  by_cases h4 : 4096 < v.length
  · have he : ppE sch k wide v = 3 := if_pos h4
    have hS : ppS sch k wide v s n = zeroS := if_neg (by rw [he]; decide)
    rw [he, hS]
    have h4' : (v.length : Int) > 4096 := by omega
    clear he hS CC uv un ra rb
    go_enter Tryz.func12, Tryz.ntmps12
    go_wp2_with fail
    refine bodyPost_ret (v := .tuple #[encT zeroS zeroP, .int .i64 3]) (by simp [results, Tryz.results12, go_sem, zeroS, zeroP]) rfl ⟨zeroP, rfl, OwnL.zero _ _, ?_⟩
    go_grown
  · by_cases he : howE sch k wide v.length = 0
    · obtain ⟨e1, e2⟩ := pp_way (s := s) (n := n) h4 he
      rw [e1, e2]
      rw [he] at CC
      have h4' : ¬ (v.length : Int) > 4096 := by omega
      have hP := howE_ok.1 he
      clear e1 e2 he

      have hq : sch = 0 ∨ sch = 1 ∨ sch = 2 ∨ sch = 3 := by unfold howP at hP; omega
      rcases hq with rfl | rfl | rfl | rfl
      · have hWE : wayE 0 k wide v = 0 := by unfold wayE; simp
        have hWS : wayS 0 k wide v s n = denS v := by unfold wayS; simp
        rw [hWE, hWS]
        have hv4 : v.length ≤ 4096 := by omega
        have HRA := hid (fun W (h : Below w.heap.size w W) => ra.on h)
        clear hWE hWS hP uv un ra rb
        show Calls _ _ _ _ (OwnSS w.heap.size (denS v) 0 w)
        go_enter Tryz.func12, Tryz.ntmps12
        go_wp2_with fail
        have BH := (BoxL.new w [.int .i64 0, .int .i64 k, .int .i64 wide] 23).below (sg_up _ (.cells #[.int .i64 0, .int .i64 0, .slice none 0 0, .slice none 0 0, .int .i64 0, .int .i64 0, .slice none 0 0, .slice none 0 0] 32)) (by simp)
        have BR := box2 w (.cells #[.int .i64 0, .int .i64 k, .int .i64 wide] 23) [.int .i64 0, .int .i64 0, .slice none 0 0, .slice none 0 0, .int .i64 0, .int .i64 0, .slice none 0 0, .slice none 0 0] 32
        refine (CC.out _).mono ?_
        rintro _ w1 ⟨rfl, hb⟩
        have BH1 := BH.below hb (by first | omega | (simp; done) | (simp; omega))
        have HR1 := hid (BR.below hb (by simp))
        have k1 : Below w.heap.size w w1 := Below.trans (by go_grown) (hb.mono (by first | omega | (simp; done) | (simp; omega)))
        have hg1 : w.heap.size + 1 < w1.heap.size := by have := hb.size; simp at this; omega
        have f0 := (BH1 0 _ rfl).1
        have r1 := HRA.out _ k1
        clear BH BR hb CC BH1
        go_wp2_with (at_builtin; refine wpList_app (Value.int .i64) (fun _ => rfl) _ rfl _ _ 24 rfl (w.heap.size + 2) 2 (.int .i64 0) 8 Tryz.underlying24 info_i64 rfl [] none 0 rfl (own_nil _ _ _) v _ c _ rfl r1 (by simp [maxLen]; omega) (by first | omega | (simp; done) | (simp; omega)) (by omega) ?_)
        rintro S' A' c' w2 hS' ho' hb2 _
        have hSv : S' = v := by simpa using hS'
        subst hSv
        have HO := hid ho'
        have k2 : Below w.heap.size w w2 := k1.trans (hb2.mono (by omega))
        obtain ⟨⟨g0, g1, g2, g3, g4, g5, g6, g7⟩, n0, n1, n2, n3, n4, n5, n6, n7⟩ := (HR1.out.below hb2 (by omega)).eight
        clear ho' hb2 hS' r1 HR1 f0 HRA
        go_wp2_with fail
        refine bodyPost_ret (v := .tuple #[encT (denS S') ⟨none, 0, A', c', none, 0, none, 0⟩, .int .i64 0]) (by simp [results, Tryz.results12, go_sem, denS, g0, g1, g2, g3, g4, g5, g6, g7]) rfl ⟨⟨none, 0, A', c', none, 0, none, 0⟩, rfl, ?_, ?_⟩
        · have hz : w.heap.size + 1 < w.heap.size + 2 := by omega
          have hO2 : OwnL w2 (w.heap.size + 2) (denS S') ⟨none, 0, A', c', none, 0, none, 0⟩ := ⟨own_nil _ _ _, HO.out, own_nil _ _ _, own_nil _ _ _⟩
          exact (((((((((hO2).set hz _).set hz _).set hz _).set hz _).set hz _).set hz _).set hz _).set hz _).base (by omega)
        · exact (((((((k2.setCell (by simp) _).setCell (by simp) _).setCell (by simp) _).setCell (by simp) _).setCell (by simp) _).setCell (by simp) _).setCell (by simp) _).setCell (by simp) _
      · have hWE : wayE 1 k wide v = prsE v k := by unfold wayE; simp
        have hWS : wayS 1 k wide v s n = prsS v k := by unfold wayS; simp
        rw [hWE, hWS]
        have CP := hid (fun W (h : Below w.heap.size w W) => show Calls Tryz.prog 35 #[.int .i64 k, .slice A v.length c] W fun e w' => ∃ p : SentP, e = .returned (.tuple #[encT (prsS v k) p, .int .i64 (prsE v k)]) ∧ OwnL w' W.heap.size (prsS v k) p ∧ Below W.heap.size W w' from (ref_Press9 (A := A) (c := c) k v uv hl W (ra.on h)).mono (by
          rintro e w' ⟨A1, c1, A2, c2, h1, h2, h3, o1, o2, hb⟩
          exact ⟨⟨A1, c1, A2, c2, none, 0, none, 0⟩, h1, ownt_l h2 h3 o1 o2, hb⟩))
        obtain ⟨S, hS⟩ : ∃ S, prsS v k = S := ⟨_, rfl⟩
        obtain ⟨E, hE⟩ : ∃ E, prsE v k = E := ⟨_, rfl⟩
        rw [hS, hE] at CP ⊢
        clear hWE hWS hS hE hP uv un ra rb
        go_enter Tryz.func12, Tryz.ntmps12
        go_wp2_with fail
        have BH := (BoxL.new w [.int .i64 1, .int .i64 k, .int .i64 wide] 23).below (sg_up _ (.cells #[.int .i64 0, .int .i64 0, .slice none 0 0, .slice none 0 0, .int .i64 0, .int .i64 0, .slice none 0 0, .slice none 0 0] 32)) (by simp)
        have BR := box2 w (.cells #[.int .i64 1, .int .i64 k, .int .i64 wide] 23) [.int .i64 0, .int .i64 0, .slice none 0 0, .slice none 0 0, .int .i64 0, .int .i64 0, .slice none 0 0, .slice none 0 0] 32
        refine (CC.out _).mono ?_
        rintro _ w1 ⟨rfl, hb⟩
        have BH1 := BH.below hb (by first | omega | (simp; done) | (simp; omega))
        have HR1 := hid (BR.below hb (by simp))
        have k1 : Below w.heap.size w w1 := Below.trans (by go_grown) (hb.mono (by first | omega | (simp; done) | (simp; omega)))
        have hg1 : w.heap.size + 1 < w1.heap.size := by have := hb.size; simp at this; omega
        have f0 := (BH1 0 _ rfl).1
        have f1 := (BH1 1 _ rfl).1
        have f2 := (BH1 2 _ rfl).1
        clear BH BR hb CC BH1
        go_wp2_with fail
        refine (CP.out _ k1).mono ?_
        rintro _ w2 ⟨p, rfl, ho, hb2⟩
        have HO := hid (ho.base (show w.heap.size + 2 ≤ w1.heap.size by omega))
        have k2 : Below w.heap.size w w2 := k1.trans (hb2.mono k1.size)
        obtain ⟨⟨g0, g1, g2, g3, g4, g5, g6, g7⟩, n0, n1, n2, n3, n4, n5, n6, n7⟩ := (HR1.out.below hb2 (by omega)).eight
        clear ho hb2 CP HR1 f0 f1 f2
        go_wp2_with fail
        refine bodyPost_ret (v := .tuple #[encT S p, .int .i64 E]) (by simp [results, Tryz.results12, go_sem, g0, g1, g2, g3, g4, g5, g6, g7]) rfl ⟨p, rfl, ?_, ?_⟩
        · have hz : w.heap.size + 1 < w.heap.size + 2 := by omega
          exact (((((((((HO.out).set hz _).set hz _).set hz _).set hz _).set hz _).set hz _).set hz _).set hz _).base (by omega)
        · exact (((((((k2.setCell (by simp) _).setCell (by simp) _).setCell (by simp) _).setCell (by simp) _).setCell (by simp) _).setCell (by simp) _).setCell (by simp) _).setCell (by simp) _
      · have hWE : wayE 2 k wide v = prqE v wide := by unfold wayE; simp
        have hWS : wayS 2 k wide v s n = prqS v wide s n := by unfold wayS; simp
        rw [hWE, hWS]
        have CP := hid (fun W (h : Below w.heap.size w W) => show Calls Tryz.prog 36 #[.slice A v.length c, .int .i64 wide, .int .u64 (s : Int), .slice B n.length d] W fun e w' => ∃ p : SentP, e = .returned (.tuple #[encT (prqS v wide s n) p, .int .i64 (prqE v wide)]) ∧ OwnL w' W.heap.size (prqS v wide s n) p ∧ Below W.heap.size W w' from (ref_Press10 (A := A) (B := B) (c := c) (d := d) v uv hl wide hwd s hs n un hn W (ra.on h) (rb.on h)).mono (by
          rintro e w' ⟨A1, c1, A2, c2, h1, h2, h3, o1, o2, _, hb⟩
          exact ⟨⟨none, 0, none, 0, A1, c1, A2, c2⟩, h1, ownl_l h2 h3 o1 o2, hb⟩))
        obtain ⟨S, hS⟩ : ∃ S, prqS v wide s n = S := ⟨_, rfl⟩
        obtain ⟨E, hE⟩ : ∃ E, prqE v wide = E := ⟨_, rfl⟩
        rw [hS, hE] at CP ⊢
        clear hWE hWS hS hE hP uv un ra rb
        go_enter Tryz.func12, Tryz.ntmps12
        go_wp2_with fail
        have BH := (BoxL.new w [.int .i64 2, .int .i64 k, .int .i64 wide] 23).below (sg_up _ (.cells #[.int .i64 0, .int .i64 0, .slice none 0 0, .slice none 0 0, .int .i64 0, .int .i64 0, .slice none 0 0, .slice none 0 0] 32)) (by simp)
        have BR := box2 w (.cells #[.int .i64 2, .int .i64 k, .int .i64 wide] 23) [.int .i64 0, .int .i64 0, .slice none 0 0, .slice none 0 0, .int .i64 0, .int .i64 0, .slice none 0 0, .slice none 0 0] 32
        refine (CC.out _).mono ?_
        rintro _ w1 ⟨rfl, hb⟩
        have BH1 := BH.below hb (by first | omega | (simp; done) | (simp; omega))
        have HR1 := hid (BR.below hb (by simp))
        have k1 : Below w.heap.size w w1 := Below.trans (by go_grown) (hb.mono (by first | omega | (simp; done) | (simp; omega)))
        have hg1 : w.heap.size + 1 < w1.heap.size := by have := hb.size; simp at this; omega
        have f0 := (BH1 0 _ rfl).1
        have f1 := (BH1 1 _ rfl).1
        have f2 := (BH1 2 _ rfl).1
        clear BH BR hb CC BH1
        go_wp2_with fail
        refine (CP.out _ k1).mono ?_
        rintro _ w2 ⟨p, rfl, ho, hb2⟩
        have HO := hid (ho.base (show w.heap.size + 2 ≤ w1.heap.size by omega))
        have k2 : Below w.heap.size w w2 := k1.trans (hb2.mono k1.size)
        obtain ⟨⟨g0, g1, g2, g3, g4, g5, g6, g7⟩, n0, n1, n2, n3, n4, n5, n6, n7⟩ := (HR1.out.below hb2 (by omega)).eight
        clear ho hb2 CP HR1 f0 f1 f2
        go_wp2_with fail
        refine bodyPost_ret (v := .tuple #[encT S p, .int .i64 E]) (by simp [results, Tryz.results12, go_sem, g0, g1, g2, g3, g4, g5, g6, g7]) rfl ⟨p, rfl, ?_, ?_⟩
        · have hz : w.heap.size + 1 < w.heap.size + 2 := by omega
          exact (((((((((HO.out).set hz _).set hz _).set hz _).set hz _).set hz _).set hz _).set hz _).set hz _).base (by omega)
        · exact (((((((k2.setCell (by simp) _).setCell (by simp) _).setCell (by simp) _).setCell (by simp) _).setCell (by simp) _).setCell (by simp) _).setCell (by simp) _).setCell (by simp) _
      · have hWE : wayE 3 k wide v = mnE v := by unfold wayE; simp
        have hWS : wayS 3 k wide v s n = sgS v := by unfold wayS; simp
        rw [hWE, hWS]
        have CP := hid (fun W (h : Below w.heap.size w W) => show Calls Tryz.prog 37 #[.slice A v.length c] W fun e w' => ∃ p : SentP, e = .returned (.tuple #[encT (sgS v) p, .int .i64 (mnE v)]) ∧ OwnL w' W.heap.size (sgS v) p ∧ Below W.heap.size W w' from (ref_Press11 (A := A) (c := c) v uv hl W (ra.on h)).mono (by
          rintro e w' ⟨A1, c1, h1, h2, h3, h4, o1, hb⟩
          exact ⟨⟨none, 0, none, 0, none, 0, A1, c1⟩, h1, owng_l h2 h3 h4 o1, hb⟩))
        obtain ⟨S, hS⟩ : ∃ S, sgS v = S := ⟨_, rfl⟩
        obtain ⟨E, hE⟩ : ∃ E, mnE v = E := ⟨_, rfl⟩
        rw [hS, hE] at CP ⊢
        clear hWE hWS hS hE hP uv un ra rb
        go_enter Tryz.func12, Tryz.ntmps12
        go_wp2_with fail
        have BH := (BoxL.new w [.int .i64 3, .int .i64 k, .int .i64 wide] 23).below (sg_up _ (.cells #[.int .i64 0, .int .i64 0, .slice none 0 0, .slice none 0 0, .int .i64 0, .int .i64 0, .slice none 0 0, .slice none 0 0] 32)) (by simp)
        have BR := box2 w (.cells #[.int .i64 3, .int .i64 k, .int .i64 wide] 23) [.int .i64 0, .int .i64 0, .slice none 0 0, .slice none 0 0, .int .i64 0, .int .i64 0, .slice none 0 0, .slice none 0 0] 32
        refine (CC.out _).mono ?_
        rintro _ w1 ⟨rfl, hb⟩
        have BH1 := BH.below hb (by first | omega | (simp; done) | (simp; omega))
        have HR1 := hid (BR.below hb (by simp))
        have k1 : Below w.heap.size w w1 := Below.trans (by go_grown) (hb.mono (by first | omega | (simp; done) | (simp; omega)))
        have hg1 : w.heap.size + 1 < w1.heap.size := by have := hb.size; simp at this; omega
        have f0 := (BH1 0 _ rfl).1
        have f1 := (BH1 1 _ rfl).1
        have f2 := (BH1 2 _ rfl).1
        clear BH BR hb CC BH1
        go_wp2_with fail
        refine (CP.out _ k1).mono ?_
        rintro _ w2 ⟨p, rfl, ho, hb2⟩
        have HO := hid (ho.base (show w.heap.size + 2 ≤ w1.heap.size by omega))
        have k2 : Below w.heap.size w w2 := k1.trans (hb2.mono k1.size)
        obtain ⟨⟨g0, g1, g2, g3, g4, g5, g6, g7⟩, n0, n1, n2, n3, n4, n5, n6, n7⟩ := (HR1.out.below hb2 (by omega)).eight
        clear ho hb2 CP HR1 f0 f1 f2
        go_wp2_with fail
        refine bodyPost_ret (v := .tuple #[encT S p, .int .i64 E]) (by simp [results, Tryz.results12, go_sem, g0, g1, g2, g3, g4, g5, g6, g7]) rfl ⟨p, rfl, ?_, ?_⟩
        · have hz : w.heap.size + 1 < w.heap.size + 2 := by omega
          exact (((((((((HO.out).set hz _).set hz _).set hz _).set hz _).set hz _).set hz _).set hz _).set hz _).base (by omega)
        · exact (((((((k2.setCell (by simp) _).setCell (by simp) _).setCell (by simp) _).setCell (by simp) _).setCell (by simp) _).setCell (by simp) _).setCell (by simp) _).setCell (by simp) _
    · have hE1 : howE sch k wide v.length = 1 := by unfold howE at he ⊢; split at he <;> simp_all
      have he2 : ppE sch k wide v = 1 := by unfold ppE; rw [if_neg h4, if_pos he]
      have hS : ppS sch k wide v s n = zeroS := if_neg (by rw [he2]; decide)
      rw [he2, hS]
      rw [hE1] at CC
      have h4' : ¬ (v.length : Int) > 4096 := by omega
      clear he he2 hS hE1 uv un ra rb
      go_enter Tryz.func12, Tryz.ntmps12
      go_wp2_with fail
      have BR := box2 w (.cells #[.int .i64 sch, .int .i64 k, .int .i64 wide] 23) [.int .i64 0, .int .i64 0, .slice none 0 0, .slice none 0 0, .int .i64 0, .int .i64 0, .slice none 0 0, .slice none 0 0] 32
      refine (CC.out _).mono ?_
      rintro _ w1 ⟨rfl, hb⟩
      have k1 : Below w.heap.size w w1 := Below.trans (by go_grown) (hb.mono (by first | omega | (simp; done) | (simp; omega)))
      obtain ⟨⟨g0, g1, g2, g3, g4, g5, g6, g7⟩, n0, n1, n2, n3, n4, n5, n6, n7⟩ := (BR.below hb (by simp)).eight
      clear BR hb CC
      go_wp2_with fail
      refine bodyPost_ret (v := .tuple #[encT zeroS zeroP, .int .i64 1]) (by simp [results, Tryz.results12, go_sem, zeroS, zeroP, g0, g1, g2, g3, g4, g5, g6, g7]) rfl ⟨zeroP, rfl, OwnL.zero _ _, ?_⟩
      exact (((((((k1.setCell (by simp) _).setCell (by simp) _).setCell (by simp) _).setCell (by simp) _).setCell (by simp) _).setCell (by simp) _).setCell (by simp) _).setCell (by simp) _
end Go.Proofs.YtecgbelgoomneaaGreat
