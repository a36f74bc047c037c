
/- Jg: texts joined: QuLv. -/
import Derived.Test.YtbkoapdeglmopaaJf
import Derived.Test.YtbkoapdeglmopaaJQpF
import Derived.Test.YtbkoapdeglmopaaJe
import Derived.Test.YtbkoapdeglmopaaJFrB
/- The chapter's example; how many numbers are few enough; what is pressed, part by part. -/
namespace Go.Proofs.Ytbkoapdeglmopaa
open Go.RowKit
set_option maxHeartbeats 400000
set_option maxRecDepth 100000
set_option linter.unusedVariables false
theorem qu_grow (w : World) (o : Obj) : Below w.heap.size w (w.alloc o) := (Below.refl _ _).alloc (Nat.le_refl _) o
/-- What is pressed, where nothing is wrong. -/
theorem sl_parts {base : Nat} {v : List Int} {wide : Int} {s : Nat} {n : List Int} {w w' : World} {e : Ending} (h : prqE v wide = 0) (H : OwnSl base (prqS v wide s n) (prqE v wide) w e w') :
    ∃ A c A' c', e = .returned (.tuple #[.agg #[.int .i64 2, .int .i64 (v.length : Int), .slice none 0 0, .slice none 0 0, .int .i64 (mostV v), .int .i64 wide, .slice A v.length c, .slice A' v.length c'], .int .i64 0]) ∧
      w'.ownsRow base 22 1 (.slice A v.length c) v.length ((levQ v wide s n v.length).map (Value.int .u64)) ∧ w'.ownsRow base 4 1 (.slice A' v.length c') v.length ((negQ v v.length).map Value.bool) ∧ Below base w w' := by
  rw [h, prq_parts h] at H
  obtain ⟨A, c, A', c', he, _, _, o1, o2, _, hb⟩ := H
  simp only [encT, levQ_len, negQ_len, List.length_nil] at he o1 o2
  exact ⟨A, c, A', c', he, o1, o2, hb⟩
/-- What is pressed, where something is wrong. -/
theorem sl_none {base : Nat} {v : List Int} {wide : Int} {s : Nat} {n : List Int} {w w' : World} {e : Ending} (h : ¬ prqE v wide = 0) (H : OwnSl base (prqS v wide s n) (prqE v wide) w e w') :
    ∃ A c A' c', e = .returned (.tuple #[.agg #[.int .i64 0, .int .i64 0, .slice none 0 0, .slice none 0 0, .int .i64 0, .int .i64 0, .slice A 0 c, .slice A' 0 c'], .int .i64 (prqE v wide)]) ∧ Below base w w' := by
  rw [show prqS v wide s n = zeroS from if_neg h] at H
  obtain ⟨A, c, A', c', he, _, _, _, _, _, hb⟩ := H
  exact ⟨A, c, A', c', he, hb⟩
/-- .. and it reads so. -/
theorem sl_rd {base : Nat} {v : List Int} {wide : Int} {s : Nat} {n : List Int} {w' : World} {A A' : Option Addr} {c c' : Nat} (h : prqE v wide = 0)
    (o1 : w'.ownsRow base 22 1 (.slice A v.length c) v.length ((levQ v wide s n v.length).map (Value.int .u64))) (o2 : w'.ownsRow base 4 1 (.slice A' v.length c') v.length ((negQ v v.length).map Value.bool)) :
    RdS w' w'.heap.size (prqS v wide s n) ⟨none, 0, none, 0, A, c, A', c'⟩ := by
  rw [prq_parts h]
  have e1 := levQ_len v wide s n v.length
  have e2 := negQ_len v v.length
  refine ⟨Rd.none_, Rd.none_, own_rd (base := base) (e := 22) (c := c) ?_, own_rd (base := base) (e := 4) (c := c') ?_⟩
  · rw [e1]; exact o1
  · rw [e2]; exact o2
theorem prqS_ln {v : List Int} {wide : Int} {s : Nat} {n : List Int} : lnS 5000 (prqS v wide s n) := by
  unfold prqS
  split
  · rename_i h
    have h2 := (mostq_ok (prqE_ok.1 h).2.2).1
    refine ⟨by simp, by simp, ?_, ?_⟩
    · show (levQ v wide s n v.length).length ≤ 5000; rw [levQ_len]; omega
    · show (negQ v v.length).length ≤ 5000; rw [negQ_len]; omega
  · exact ⟨by simp [zeroS], by simp [zeroS], by simp [zeroS], by simp [zeroS]⟩
theorem prqS_wf {v : List Int} {wide : Int} {s : Nat} {n : List Int} (hw : I64 wide) : wfS (prqS v wide s n) := by
  unfold prqS
  split
  · rename_i h
    obtain ⟨h1, h2, h3⟩ := prqE_ok.1 h
    have h4 := (mostq_ok h3).1
    refine ⟨by show I64 2; decide, by show I64 (v.length : Int); unfold I64; omega, by simp, by simp, most_i64 v, hw, fun x hx => ?_⟩
    have hx' : x ∈ levQ v wide s n v.length := hx
    unfold levQ at hx'
    obtain ⟨i, hi, rfl⟩ := List.mem_map.1 hx'
    have h5 := (plQ_is (seed := s) (n := n) (i := i) (prq_lvl h (List.mem_range.1 hi))).2
    have h6 := topQ_bd h1
    unfold U64
    omega
  · exact ⟨by show I64 0; decide, by show I64 0; decide, by simp [zeroS], by simp [zeroS], by show I64 0; decide, by show I64 0; decide, by simp [zeroS, U64s]⟩
set_option maxHeartbeats 2000000 in
theorem qu_live (w : World) :
    Calls Try.prog 9 #[] w fun e w' => e = .returned (.bool true) ∧ Below w.heap.size w w' := by
  have C1 := hid (qp_Level 7 10 2 (by decide) (by decide) (by decide) w)
  rw [show lvlL 7 10 2 = 2 by decide, show lvlR 7 10 2 = 1 by decide, show lvlE 7 10 2 = 0 by decide] at C1
  have hE : prqE [5, -5] 1 = 0 := by decide
  have hM : mostV [5, -5] = 5 := by decide
  have u5 : ∀ x ∈ ([5, -5] : List Int), I64 x := by intro x hx; simp at hx; unfold I64; omega
  have C2 := hid (fun (A : Option Addr) W (h : Rd (Value.int .i64) W W.heap.size A [5, -5]) => (qp_Press (A := A) (c := 2) (B := none) (d := 0) [5, -5] u5 (by decide) 1 (by decide) 3 (by decide) [] (by simp) (by simp) W h Rd.none_).mono fun e w' => sl_parts hE)
  have C3 := hid (fun (A A1 A2 : Option Addr) (c1 c2 : Nat) W (h1 : Rd (Value.int .i64) W W.heap.size A [5, -5]) (h2 : RdS W W.heap.size (prqS [5, -5] 1 3 []) ⟨none, 0, none, 0, A1, c1, A2, c2⟩) => qp_Near (A := A) (c := 2) [5, -5] u5 (by decide) (prqS [5, -5] 1 3 []) ⟨none, 0, none, 0, A1, c1, A2, c2⟩ (prqS_ln.more (by decide)) (prqS_wf (by decide)) W h1 h2)
  rw [prq_near hE] at C3
  have HRD := hid (fun (base : Nat) (w' : World) (A A' : Option Addr) (c c' : Nat) o1 o2 => sl_rd (base := base) (w' := w') (A := A) (A' := A') (c := c) (c' := c') (s := 3) (n := []) hE o1 o2)
  have hP := prq_parts (seed := 3) (n := []) hE
  have l1 := levQ_len [5, -5] 1 3 [] ([5, -5] : List Int).length
  have l2 := negQ_len [5, -5] ([5, -5] : List Int).length
  rw [hM] at C2 hP
  rw [hP] at C3 HRD
  obtain ⟨LV, hLV⟩ : ∃ L, levQ [5, -5] 1 3 [] ([5, -5] : List Int).length = L := ⟨_, rfl⟩
  obtain ⟨NG, hNG⟩ : ∃ L, negQ [5, -5] ([5, -5] : List Int).length = L := ⟨_, rfl⟩
  rw [hLV] at C2 C3 HRD l1
  rw [hNG] at C2 C3 HRD l2
  have C4 := hid (fun A A1 A2 c1 c2 W h1 h2 => show Calls Try.prog 24 #[.slice A 2 2, .agg #[.int .i64 2, .int .i64 2, .slice none 0 0, .slice none 0 0, .int .i64 5, .int .i64 1, .slice A1 2 c1, .slice A2 2 c2]] W fun e w' => e = .returned (.bool true) ∧ Below W.heap.size W w' by
    have h := C3.out A A1 A2 c1 c2 W h1 h2
    simp only [encT, l1, l2] at h
    exact h)
  rw [show ([5, -5] : List Int).length = 2 from rfl] at C2 HRD
  clear hE hM u5 hP l1 l2 hLV hNG C3
  go_enter Try.func9, Try.ntmps9
  go_wp2_with fail
  refine C1.out.mono ?_
  rintro _ w1 ⟨rfl, hb1⟩
  clear C1
  go_wp2_with fail
  refine (C2.out _ _ (rd_new (enc := Value.int .i64) w1 2 [5, -5])).mono ?_
  rintro _ w2 ⟨A1, c1, A2, c2, rfl, o1, o2, hb2⟩
  have k2 : Below w.heap.size w w2 := hb1.trans ((Below.trans (qu_grow w1 _) (hb2.mono (by simp))).mono hb1.size)
  have RD := hid (HRD.out _ w2 A1 A2 c1 c2 o1 o2)
  clear o1 o2 hb1 hb2 HRD C2
  go_wp2_with fail
  have g2 := qu_grow w2 (.cells #[.int .i64 2, .int .i64 2, .slice none 0 0, .slice none 0 0, .int .i64 5, .int .i64 1, .slice A1 2 c1, .slice A2 2 c2] 37)
  have g3 := qu_grow (w2.alloc (.cells #[.int .i64 2, .int .i64 2, .slice none 0 0, .slice none 0 0, .int .i64 5, .int .i64 1, .slice A1 2 c1, .slice A2 2 c2] 37)) (.cells #[.int .i64 5, .int .i64 (-5)] 2)
  have rr : Rd (Value.int .i64) ((w2.alloc (.cells #[.int .i64 2, .int .i64 2, .slice none 0 0, .slice none 0 0, .int .i64 5, .int .i64 1, .slice A1 2 c1, .slice A2 2 c2] 37)).alloc (.cells #[.int .i64 5, .int .i64 (-5)] 2)) ((w2.alloc (.cells #[.int .i64 2, .int .i64 2, .slice none 0 0, .slice none 0 0, .int .i64 5, .int .i64 1, .slice A1 2 c1, .slice A2 2 c2] 37)).alloc (.cells #[.int .i64 5, .int .i64 (-5)] 2)).heap.size (some ⟨w2.heap.size + 1, 0, none⟩) [5, -5] := by
    have h := rd_new (enc := Value.int .i64) (w2.alloc (.cells #[.int .i64 2, .int .i64 2, .slice none 0 0, .slice none 0 0, .int .i64 5, .int .i64 1, .slice A1 2 c1, .slice A2 2 c2] 37)) 2 [5, -5]
    rw [show (w2.alloc (.cells #[.int .i64 2, .int .i64 2, .slice none 0 0, .slice none 0 0, .int .i64 5, .int .i64 1, .slice A1 2 c1, .slice A2 2 c2] 37)).heap.size = w2.heap.size + 1 by simp] at h
    exact h
  refine (C4.out _ _ _ _ _ _ rr ((RD.out.on g2).on g3)).mono ?_
  rintro _ w3 ⟨rfl, hb3⟩
  have k3 := k2.trans ((g2.trans ((g3.trans (hb3.mono g3.size)).mono g2.size)).mono k2.size)
  clear rr RD g2 g3 hb3 k2 C4
  go_wp2_with fail
  go_ret
  exact ⟨by simp, k3⟩
/-- Short enough to be played, or too long. -/
def fewU (v n : List Int) : Bool := decide ((v.length ≤ 200 ∨ (4096 < v.length ∧ v.length ≤ 5000)) ∧ n.length ≤ 50)
theorem qu_few {A B : Option Addr} {c d : Nat} (v n : List Int) (hv : v.length ≤ 9223372036854775807) (hn : n.length ≤ 9223372036854775807) (w : World) :
    Calls Try.prog 16 #[.slice A v.length c, .slice B n.length d] w fun e w' => e = .returned (.bool (fewU v n)) ∧ w = w' := by
  have HR : Hid (fewU v n = true ↔ (((v.length : Int) ≤ 200 ∨ ((v.length : Int) > 4096 ∧ (v.length : Int) ≤ 5000)) ∧ (n.length : Int) ≤ 50)) := hid (by unfold fewU; rw [decide_eq_true_iff]; omega)
  obtain ⟨R, hR⟩ : ∃ R, fewU v n = R := ⟨_, rfl⟩
  rw [hR] at HR ⊢
  clear hR
  go_enter Try.func16, Try.ntmps16
  go_wp2_with fail
  all_goals (go_ret; refine ⟨ret_of ?_, rfl⟩; rw [HR.out]; first | (simp [*]; done) | (simp [*]; omega))
end Go.Proofs.Ytbkoapdeglmopaa
