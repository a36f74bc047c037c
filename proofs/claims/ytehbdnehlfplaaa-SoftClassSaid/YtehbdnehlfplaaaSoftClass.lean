
/-
  SoftClass answers true for every input. No condition.
-/
import Derived.Test.YtehbdnehlfplaaaPd
import Derived.Test.YtehbdnehlfplaaaPb
import Derived.Test.YtehbdnehlfplaaaPa
namespace Go.Proofs.Ytehbdnehlfplaaa.SoftClass
open Go.ChangeShapes Go.WideShapes Go.ChangeAt Go.RowKit
set_option maxHeartbeats 400000
set_option linter.unusedVariables false
open Go.Proofs.Ytehbdnehlfplaaa
/-- Some of the bases greater: those ahead of a place. -/
def sclassT (n : Nat) (c : Int) (u : List Int) (i : Nat) : List Int := (List.range u.length).map fun t => if t % n = n - 1 ∧ t < i then u.getD t 0 + c else u.getD t 0
theorem sclassT_len (n : Nat) (c : Int) (u : List Int) (i : Nat) : (sclassT n c u i).length = u.length := by unfold sclassT; simp
theorem sclassT_get {n : Nat} {c : Int} {u : List Int} {i t : Nat} (ht : t < u.length) : (sclassT n c u i)[t]? = some (if t % n = n - 1 ∧ t < i then u.getD t 0 + c else u.getD t 0) := by
  unfold sclassT
  rw [List.getElem?_map, List.getElem?_range ht]
  rfl
theorem sclass_out {l : List Int} {t : Nat} (h : ¬ t < l.length) : l[t]? = none := List.getElem?_eq_none (by omega)
theorem sclassT_start {n : Nat} {c : Int} {u : List Int} (hn : 0 < n) : sclassT n c u (n - 1) = u := by
  refine List.ext_getElem? fun t => ?_
  by_cases ht : t < u.length
  · rw [sclassT_get ht, if_neg (by
      rintro ⟨h1, h2⟩
      rw [Nat.mod_eq_of_lt (by omega)] at h1
      omega), List.getD_eq_getElem?_getD, List.getElem?_eq_getElem ht, Option.getD_some]
  · rw [sclass_out ht, sclass_out (by rw [sclassT_len]; exact ht)]
theorem sclass_same {n i t : Nat} (hn : 0 < n) (hi : i % n = n - 1) (ht : t % n = n - 1) (h1 : i ≤ t) (h2 : t < i + n) : t = i := by
  have e1 := Nat.div_add_mod i n
  have e2 := Nat.div_add_mod t n
  rw [hi] at e1
  rw [ht] at e2
  have h3 : n * (i / n) ≤ n * (t / n) := by omega
  have h4 : n * (t / n) < n * (i / n + 1) := by rw [Nat.mul_succ]; omega
  have h5 := Nat.le_of_mul_le_mul_left h3 hn
  have h6 := Nat.lt_of_mul_lt_mul_left h4
  have h7 : t / n = i / n := by omega
  rw [h7] at e2
  omega
theorem sclassT_step {n : Nat} {c : Int} {u : List Int} {i : Nat} (hn : 0 < n) (hi : i < u.length) (hm : i % n = n - 1) : sclassT n c u (i + n) = (sclassT n c u i).set i (u.getD i 0 + c) := by
  refine List.ext_getElem? fun t => ?_
  by_cases ht : t < u.length
  · rw [sclassT_get ht, List.getElem?_set]
    by_cases e : i = t
    · subst e
      rw [if_pos rfl, if_pos ⟨hm, by omega⟩, if_pos (by rw [sclassT_len]; exact hi)]
    · rw [if_neg e, sclassT_get ht]
      congr 1
      by_cases h1 : t % n = n - 1 ∧ t < i
      · rw [if_pos h1, if_pos ⟨h1.1, by omega⟩]
      · rw [if_neg h1, if_neg]
        rintro ⟨h2, h3⟩
        by_cases h4 : t < i
        · exact h1 ⟨h2, h4⟩
        · exact e (sclass_same hn hm h2 (by omega) h3).symm
  · rw [sclass_out (by rw [sclassT_len]; exact ht), sclass_out (by rw [List.length_set, sclassT_len]; exact ht)]
theorem sclassT_end {n : Nat} {c : Int} {u : List Int} {i : Nat} (hi : u.length ≤ i) : sclassT n c u i = upW n c u := by
  refine List.ext_getElem? fun t => ?_
  by_cases ht : t < u.length
  · rw [sclassT_get ht]
    unfold upW
    rw [List.getElem?_map, List.getElem?_range ht]
    simp only [Option.map_some]
    congr 1
    by_cases h1 : t % n = n - 1
    · rw [if_pos ⟨h1, by omega⟩, if_pos h1]
    · rw [if_neg (fun h => h1 h.1), if_neg h1]
  · rw [sclass_out (by rw [sclassT_len]; exact ht), sclass_out (by rw [upW_len]; exact ht)]
theorem sclassT_at {n : Nat} {c : Int} {u : List Int} {i : Nat} {y : Int} (hy : u[i]? = some y) : (sclassT n c u i)[i]? = some y := by
  rw [sclassT_get (List.getElem?_eq_some_iff.1 hy).1, if_neg (by omega), getD_of hy]
theorem sclass_err {o : Int} {u x : List Int} {f : Int} (h : stE o u x f ≠ 0) : kcE o u x f = 0 ∨ stE o u x f = kcE o u x f := by
  by_cases h1 : lzE o u x f = 0
  · left
    unfold kcE
    rw [if_neg (by simp [h1])]
    have o1 := rwE_ok.1 (lzE_ok.1 h1).1
    have hl := lzV_len o u x f
    exact bstE_ok.2 ⟨fun e => by rw [e] at hl; simp at hl; omega, by omega⟩
  · right
    unfold stE kcE
    rw [if_pos h1, if_pos h1]
theorem sclass_up {o : Int} {u x : List Int} {f c : Int} (hu : ∀ n ∈ u, n.natAbs ≤ 1099511627776) (hX : ∀ n ∈ x, n.natAbs ≤ 32768) (hc : c.natAbs ≤ 1099511627776) (h : stE o u x f = 0) :
    stE o (upW (x.length + 1) c u) x f = 0 ∧ stV o (upW (x.length + 1) c u) x f = stV o u x f ∧ kcE o (upW (x.length + 1) c u) x f = 0 ∧ kcN o (upW (x.length + 1) c u) x f = kcN o u x f := by
  obtain ⟨h4, h5⟩ := stE_ok.1 h
  obtain ⟨g1, g2⟩ := soft_up hu hX hc h4
  obtain ⟨s1, s2, s3, s4⟩ := sof_shift f c (lzV o u x f)
  obtain ⟨k1, _⟩ := soft_class h
  have e1 : stE o (upW (x.length + 1) c u) x f = 0 := stE_ok.2 ⟨g1, by rw [g2, s3]; exact h5⟩
  have hb : bstE (lzV o u x f) = 0 := by unfold kcE at k1; rwa [if_neg (by simp [h4])] at k1
  have e2 : kcE o (upW (x.length + 1) c u) x f = 0 := by unfold kcE; rw [if_neg (by simp [g1]), g2, s1]; exact hb
  refine ⟨e1, ?_, e2, ?_⟩
  · unfold stV
    rw [if_pos e1, if_pos h, g2]
    unfold sofV at s4
    rwa [s3, if_pos h5, if_pos h5] at s4
  · unfold kcN
    rw [if_pos e2, if_pos k1, g2]
    unfold bstN at s2
    rwa [s1, if_pos hb, if_pos hb] at s2
theorem sclass_mod (b : Int) : ∃ c : Int, Hid (b.tmod 1099511627776 = c) ∧ c.natAbs ≤ 1099511627776 := by
  have h1 := Int.lt_tmod_of_pos b (show (0 : Int) < 1099511627776 by decide)
  have h2 := Int.tmod_lt_of_pos b (show (0 : Int) < 1099511627776 by decide)
  exact ⟨_, hid rfl, by omega⟩
theorem sclass_abs {x : Int} (h1 : ¬ x > 1099511627776) (h2 : ¬ x < -1099511627776) : x.natAbs ≤ 1099511627776 := by omega
theorem sclass_abs2 {x : Int} (h1 : ¬ x > 32768) (h2 : ¬ x < -32768) : x.natAbs ≤ 32768 := by omega
theorem sclass_add {x c : Int} (h1 : x.natAbs ≤ 1099511627776) (h2 : c.natAbs ≤ 1099511627776) : ∃ y, x + c = y ∧ IntKind.i64.wrap (x + c) = y ∧ wrap64 (x + c) = y := ⟨x + c, rfl, Go.IntWalk.i64_in _ (by omega), Go.IntWalk.wrap64_in _ (by omega)⟩
theorem sclass_i64 {n : Nat} {u : List Int} {c : Int} (hu : ∀ y ∈ u, y.natAbs ≤ 1099511627776) (hc : c.natAbs ≤ 1099511627776) : I64s (upW n c u) := fun x hx => by
  unfold upW at hx
  obtain ⟨t, ht, rfl⟩ := List.mem_map.1 hx
  have ht2 : t < u.length := List.mem_range.1 ht
  have h := hu (u.getD t 0) (by rw [List.getD_eq_getElem?_getD, List.getElem?_eq_getElem ht2, Option.getD_some]; exact List.getElem_mem _)
  split
  · unfold I64; omega
  · unfold I64; omega
theorem sclass_next {i N U : Nat} (h : i < U) (hU : U ≤ 500) (hN : N ≤ 100) : ∃ n1 i2 : Nat, n1 = N + 1 ∧ i2 = i + n1 ∧ Hid (IntKind.i64.wrap ((N : Int) + 1) = (n1 : Int) ∧ IntKind.i64.wrap ((i : Int) + (n1 : Int)) = (i2 : Int)) :=
  ⟨N + 1, i + (N + 1), rfl, rfl, hid ⟨Go.IntWalk.i64_in _ (by omega), by rw [Go.IntWalk.i64_in _ (by omega)]; omega⟩⟩
theorem sclass_ints {l : List Int} {k : Nat} {s : Int} {P : Int → Prop} (h : ∀ x ∈ l.take k, P x) (hs : l[k]? = some s) (hp : P s) : ∀ x ∈ l.take (k + 1), P x := by
  rw [List.take_add_one, hs]
  intro x hx
  rcases List.mem_append.1 hx with hx | hx
  · exact h x hx
  · simp at hx; subst hx; exact hp
set_option maxHeartbeats 4000000 in
set_option maxRecDepth 100000 in
theorem walk (o : Int) (Au : Option Addr) (u : List Int) (cu : Nat) (Ax : Option Addr) (x : List Int) (cx : Nat) (f b : Int) (w : World) (ho : I64 o)
    (ru : Rd (Value.int .i64) w w.heap.size Au u) (iu : I64s u) (lcu : u.length ≤ cu) (lmu : cu ≤ 9223372036854775807)
    (rx : Rd (Value.int .i64) w w.heap.size Ax x) (ix : I64s x) (lcx : x.length ≤ cx) (lmx : cx ≤ 9223372036854775807) (hf : I64 f) (hb : I64 b) :
    Calls Try.prog 5 #[.int .i64 o, .slice Au u.length cu, .slice Ax x.length cx, .int .i64 f, .int .i64 b] w fun e w' => e = .returned (.bool true) ∧ Below w.heap.size w w' := by
  have hul : u.length ≤ 9223372036854775807 := by omega
  have hxl : x.length ≤ 9223372036854775807 := by omega
  obtain ⟨c, hbc, hc1⟩ := sclass_mod b
  have C0 := hid (fun W A (h : RdSm W W.heap.size A [⟨x, 0⟩]) => ref_Few14 (Aw := Au) (A := A) (cw := cu) (c := 1) u.length hul [⟨x, 0⟩] (by simp) W h)
  have C1 := hid (fun (hx : x.length ≤ 1099511627776) W h1 h2 => sf_Tell (Au := Au) (Ax := Ax) (cu := cu) (cx := cx) o ho u x lcu lmu iu hx ix f W h1 h2)
  have C2 := hid (fun (hx : x.length ≤ 1099511627776) W h1 h2 => sf_Class (Au := Au) (Ax := Ax) (cu := cu) (cx := cx) o ho u x lcu lmu iu hx ix f W h1 h2)
  have C3 := hid (fun (hx : x.length ≤ 1099511627776) (iz : I64s (upW (x.length + 1) c u)) (A : Option Addr) (k : Nat) (h1 : (upW (x.length + 1) c u).length ≤ k) (h2 : k ≤ 9223372036854775807) W h3 h4 => sf_Tell (Au := A) (Ax := Ax) (cu := k) (cx := cx) o ho (upW (x.length + 1) c u) x h1 h2 iz hx ix f W h3 h4)
  have C4 := hid (fun (hx : x.length ≤ 1099511627776) (iz : I64s (upW (x.length + 1) c u)) (A : Option Addr) (k : Nat) (h1 : (upW (x.length + 1) c u).length ≤ k) (h2 : k ≤ 9223372036854775807) W h3 h4 => sf_Class (Au := A) (Ax := Ax) (cu := k) (cx := cx) o ho (upW (x.length + 1) c u) x h1 h2 iz hx ix f W h3 h4)
  have HERR := hid (fun (h : stE o u x f ≠ 0) => sclass_err h)
  have HCL := hid (fun (h : stE o u x f = 0) => soft_class h)
  have HUP := hid (fun (hu : ∀ n ∈ u, n.natAbs ≤ 1099511627776) (hX : ∀ n ∈ x, n.natAbs ≤ 32768) (h : stE o u x f = 0) => sclass_up hu hX hc1 h)
  have HI := hid (fun (hu : ∀ n ∈ u, n.natAbs ≤ 1099511627776) => sclass_i64 (n := x.length + 1) hu hc1)
  have hfew : fewL u.length [⟨x, 0⟩] = true → u.length ≤ 500 ∧ x.length ≤ 100 := fun h => by
    unfold fewL at h
    simp only [Bool.and_eq_true, decide_eq_true_eq, List.all_cons, List.all_nil] at h
    exact ⟨h.2.1, h.1.1⟩
  have hul2 := upW_len (x.length + 1) c u
  rw [hul2] at C3 C4
  obtain ⟨F, hF⟩ : ∃ F, fewL u.length [⟨x, 0⟩] = F := ⟨_, rfl⟩
  obtain ⟨P, hP⟩ : ∃ P, stV o u x f = P := ⟨_, rfl⟩
  obtain ⟨E, hE⟩ : ∃ E, stE o u x f = E := ⟨_, rfl⟩
  obtain ⟨C, hC⟩ : ∃ C, kcN o u x f = C := ⟨_, rfl⟩
  obtain ⟨D, hD⟩ : ∃ D, kcE o u x f = D := ⟨_, rfl⟩
  obtain ⟨U, hU⟩ : ∃ U, u.length = U := ⟨_, rfl⟩
  obtain ⟨N, hN⟩ : ∃ N, x.length = N := ⟨_, rfl⟩
  rw [hF] at C0 hfew
  rw [hP, hE] at C1
  rw [hC, hD] at C2
  rw [hE, hD] at HERR
  rw [hE, hD, hC, hP] at HCL
  rw [hE, hP, hC] at HUP
  have hsl : ([⟨x, 0⟩] : List SmpV).length = 1 := rfl
  rw [hsl] at C0
  rw [hU] at C0 C1 C2 C3 C4 hfew ⊢
  rw [hN] at C1 C2 C3 C4 HUP HI hfew hul2 ⊢
  rw [hU] at hul2
  have HU := hid hU
  have HN := hid hN
  have RU := hid ru
  have RX := hid rx
  have HC1 := hid hc1
  have HUL2 := hid hul2
  have CF : Hid (∀ w1, Below w.heap.size w w1 → Calls Try.prog 9 #[.slice Au U cu, .slice (some ⟨w1.heap.size, 0, none⟩) 1 1] (w1.alloc (.cells #[.slice Ax N cx, .int .i64 0] 24)) fun e w' => e = .returned (.bool F) ∧ Below w.heap.size w w') := hid (fun w1 h1 => by
    have r := smp_one (cx := cx) (Y := 0) 24 (RX.out.on h1)
    rw [hN] at r
    refine (C0.out _ _ r).mono ?_
    rintro _ w' ⟨rfl, h⟩
    exact ⟨rfl, (h1.alloc h1.size _).trans (h.mono (by have := h1.size; simp; omega))⟩)
  clear hF hP hE hC hD hU hN hsl ru rx iu ix lcu lmu lcx lmx hf hb ho hul hxl C0 hc1 hul2
  cases F with
  | false =>
    clear hfew
    go_enter Try.func5, Try.ntmps5
    go_wp2_with fail
    refine (sf_live _).mono ?_
    rintro _ w1 ⟨rfl, h1⟩
    have CF1 := hid (CF.out w1 h1)
    clear h1
    go_wp2_with fail
    refine CF1.out.mono ?_
    rintro _ w2 ⟨rfl, h2⟩
    go_wp2_with fail
    go_ret
    exact ⟨rfl, h2⟩
  | true =>
    obtain ⟨hu5, hx1⟩ := hfew rfl
    have hx2 : N ≤ 1099511627776 := by omega
    have D1 := hid (C1.out hx2)
    have D2 := hid (C2.out hx2)
    have D3 := hid (C3.out hx2)
    have D4 := hid (C4.out hx2)
    have HU5 := hid hu5
    have HX1 := hid hx1
    clear hfew C1 C2 C3 C4 hu5 hx1
    go_enter Try.func5, Try.ntmps5
    go_wp2_with fail
    refine (sf_live _).mono ?_
    rintro _ w1 ⟨rfl, h1⟩
    have CF1 := hid (CF.out w1 h1)
    clear h1 CF
    go_wp2_with fail
    refine CF1.out.mono ?_
    rintro _ w2 ⟨rfl, h2⟩
    have K2 := hid h2
    clear h2 CF1
    by_cases hE : E = 0
    · subst hE
      obtain ⟨rfl, h2, h3, h4, h5⟩ := HCL.out rfl
      obtain ⟨L, hL⟩ : ∃ L, P.length = L := ⟨_, rfl⟩
      rw [hL] at h3
      subst h3
      rw [hL] at h4
      have hCL : C < L := by omega
      have HL := hid hL
      have H4 := hid h4
      have H5 := hid h5
      have t1 : ((L : Int) != (L : Int)) = false := by simp
      have t2 : ¬ (C : Int) < 0 := by omega
      have t3 : ¬ (C : Int) ≥ (L : Int) := by omega
      clear h2 h4 h5 hL HERR HCL hx2
      go_wp2_with fail
      refine (D1.out _ (RU.out.on K2.out) (RX.out.on K2.out)).mono ?_
      rintro _ w3 ⟨A3, c3, rfl, ho3, h3⟩
      rw [HL.out]
      have K3 : Hid (Below w.heap.size w w3) := hid (K2.out.trans (h3.mono K2.out.size))
      have R3 := hid (own_rd ho3)
      have hcap3 := own_cap ho3
      rw [HL.out] at hcap3
      have HCAP := hid hcap3
      clear h3 ho3 D1 hcap3
      go_wp2_with fail
      refine (D2.out _ (RU.out.on K3.out) (RX.out.on K3.out)).mono ?_
      rintro _ w4 ⟨rfl, h4⟩
      have K4 : Hid (Below w.heap.size w w4) := hid (K3.out.trans (h4.mono K3.out.size))
      have R4 := hid (R3.out.on h4)
      obtain ⟨g, o4, pc, rfl, lg, fc, kc⟩ := R4.out.at_ (k := C) (by rw [HL.out]; exact hCL)
      have HPC := hid (getD_of fc)
      have hLb : L ≤ 9223372036854775807 := by have := HCAP.out; omega
      clear h4 R3 fc D2
      go_wp2_with fail
      clear t1 t2 t3
      go_loopw [16, 17, 84] (fun _ _ xi wr => ∃ k : Nat, k ≤ L ∧ xi = .int .i64 (k : Int) ∧ wr = w4) (fun _ _ xi _ => L - (intOf xi).toNat)
      case atStart => exact ⟨0, Nat.zero_le _, rfl, rfl⟩
      case round =>
        obtain ⟨k, hk, rfl, rfl⟩ := hrel
        by_cases hlt : k < L
        · obtain ⟨g', o', y, eg, l2, fy, ky⟩ := R4.out.at_ (k := k) (by rw [HL.out]; exact hlt)
          cases eg
          have hyc : ¬ y > pc := by have := H4.out k hlt; rw [getD_of fy, HPC.out] at this; omega
          have hy0 : ¬ y < 0 := by have := H5.out y (List.mem_of_getElem? fy); omega
          have hkL : ¬ (k : Int) ≥ (L : Int) := by omega
          clear fy
          go_wp2_with fail
          go_roundw
          case rel => exact ⟨k + 1, hlt, by go_num, by trivial⟩
          case measure => (try clear hyc hy0 hkL); simp [intOf]; omega
        · obtain rfl : k = L := by omega
          clear hlt hk kc hLb hCL
          have bm := hbc.out
          have RU4 := RU.out.on K4.out
          go_wp2_with (at_builtin; refine wpList_app (Value.int .i64) (fun _ => rfl) _ rfl _ _ 22 rfl wr.heap.size 2 (.int .i64 0) 8 Try.underlying22 info_i64 rfl [] none 0 rfl (own_nil _ _ _) u Au cu _ (by rw [HU.out]; rfl) RU4 (by have := HU.out; have := HU5.out; simp [maxLen]; omega) (by have := HU.out; have := HU5.out; simp; omega) (Nat.le_refl _) ?_)
          rintro S A5 c5 w5 hS ho5 hb5 _
          replace hS : S = u := by simpa using hS
          subst hS
          rw [HU.out]
          have HO5 : Hid (w5.ownsRow wr.heap.size 2 1 (.slice A5 U c5) U ((sclassT (N + 1) c S N).map (Value.int .i64))) := hid (by
            have e := sclassT_start (n := N + 1) (c := c) (u := S) (Nat.succ_pos N)
            rw [Nat.add_sub_cancel] at e
            rw [e]
            rw [HU.out] at ho5
            exact ho5)
          have J5 : Hid (Below wr.heap.size wr w5) := hid hb5
          generalize wr = wa at *
          clear ho5 hb5 RU4 bm
          go_wp2_with fail
          go_loopw [19] (fun xi wr => ∃ i : Nat, i % (N + 1) = N ∧ i ≤ U + N ∧ xi = .int .i64 (i : Int) ∧ wr.ownsRow wa.heap.size 2 1 (.slice A5 U c5) U ((sclassT (N + 1) c S i).map (Value.int .i64)) ∧ Below wa.heap.size wa wr) (fun xi _ => U - (intOf xi).toNat)
          case atStart => exact ⟨N, Nat.mod_eq_of_lt (Nat.lt_succ_self N), by omega, rfl, HO5.out, J5.out⟩
          case round =>
            obtain ⟨i, him, hiU, rfl, ho6, hbel⟩ := hrel
            have HO6 := hid ho6
            have HB := hid hbel
            have HIM := hid him
            have KR : Hid (Below w.heap.size w wr) := hid (K4.out.trans (hbel.mono K4.out.size))
            clear HO5 J5 ho6 him
            by_cases hlt : i < U
            · obtain ⟨y, hy⟩ : ∃ y, S[i]? = some y := ⟨_, List.getElem?_eq_getElem (by rw [HU.out]; exact hlt)⟩
              have hTy := sclassT_at (n := N + 1) (c := c) hy
              obtain ⟨g5, rfl, hg5, k5, f5⟩ := own_cellk HO6.out (k := i) (by rw [sclassT_len, HU.out]; exact hlt)
              rw [getD_of hTy] at k5
              have HYS := hid hy
              clear hy hTy hbel
              by_cases h1 : y > 1099511627776
              · have hop : ∀ t, binOp .gtr t (.int .i64 y) (.int .i64 1099511627776) = pure (.bool true) := fun t => by rw [binOp_gtr, decide_eq_true h1]
                clear h1
                go_wp2_with fail
                go_ret
                exact ⟨rfl, KR.out⟩
              · have hop : ∀ t, binOp .gtr t (.int .i64 y) (.int .i64 1099511627776) = pure (.bool false) := fun t => by rw [binOp_gtr, decide_eq_false h1]
                by_cases h2 : y < -1099511627776
                · have hop2 : ∀ t, binOp .lss t (.int .i64 y) (.int .i64 (-1099511627776)) = pure (.bool true) := fun t => by rw [binOp_lss, decide_eq_true h2]
                  clear h1 h2
                  go_wp2_with fail
                  go_ret
                  exact ⟨rfl, KR.out⟩
                · have hop2 : ∀ t, binOp .lss t (.int .i64 y) (.int .i64 (-1099511627776)) = pure (.bool false) := fun t => by rw [binOp_lss, decide_eq_false h2]
                  obtain ⟨y2, e1, e2, e3⟩ := sclass_add (sclass_abs h1 h2) HC1.out
                  obtain ⟨n1, i2, hn1, hi2, hws⟩ := sclass_next hlt HU5.out HX1.out
                  obtain ⟨ws1, ws2⟩ := hws.out
                  have hst := (HO6.out.stored i (.int .i64 y2)).1
                  have hstep : Hid ((sclassT (N + 1) c S i).set i y2 = sclassT (N + 1) c S i2) := hid (by
                    rw [hi2, hn1, sclassT_step (Nat.succ_pos N) (by rw [HU.out]; exact hlt) (by rw [HIM.out]; rfl), getD_of HYS.out, e1])
                  rw [← List.map_set, hstep.out] at hst
                  have HST := hid hst
                  have HI2 : Hid (i2 % (N + 1) = N ∧ i2 ≤ U + N) := hid (by
                    subst hi2 hn1
                    refine ⟨by rw [Nat.add_mod_right]; exact HIM.out, by omega⟩)
                  have HLT : Hid (i < i2 ∧ i < U) := hid (by omega)
                  clear h1 h2 e1 hn1 hi2 hst hws hiU
                  go_wp2_with fail
                  go_roundw
                  case rel => exact ⟨i2, HI2.out.1, HI2.out.2, rfl, HST.out, HB.out.setCell hg5 _⟩
                  case measure => have := HLT.out; (try clear ws1 ws2 e2 e3); simp [intOf]; omega
            · have hTU : Hid (sclassT (N + 1) c S i = upW (N + 1) c S) := hid (sclassT_end (by rw [HU.out]; omega))
              have HOW : Hid (wr.ownsRow wa.heap.size 2 1 (.slice A5 U c5) U ((upW (N + 1) c S).map (Value.int .i64))) := hid (by rw [← hTU.out]; exact HO6.out)
              have hUb : U ≤ 9223372036854775807 := by have := HU5.out; omega
              have hNb : N ≤ 9223372036854775807 := by have := HX1.out; omega
              have R4w := hid (R4.out.on HB.out)
              clear HO6 hTU hbel HIM
              generalize wr = wo at *
              go_wp2_with fail
              clear hlt hiU
              go_loopw [20, 142] (fun _ xi wr => ∃ k : Nat, k ≤ U ∧ xi = .int .i64 (k : Int) ∧ (∀ y ∈ S.take k, y.natAbs ≤ 1099511627776) ∧ wr = wo) (fun _ xi _ => U - (intOf xi).toNat)
              case atStart => exact ⟨0, Nat.zero_le _, rfl, fun y hy => by simp at hy, rfl⟩
              case round =>
                obtain ⟨q, hq, rfl, ha, rfl⟩ := hrel
                have HA := hid ha
                clear ha
                by_cases hlt : q < U
                · obtain ⟨b1, o1, y, rfl, l1, en, d1⟩ := (RU.out.on KR.out).at_ (k := q) (by rw [HU.out]; exact hlt)
                  have HEN := hid en
                  clear en
                  by_cases h1 : y > 1099511627776
                  · have hop : ∀ t, binOp .gtr t (.int .i64 y) (.int .i64 1099511627776) = pure (.bool true) := fun t => by rw [binOp_gtr, decide_eq_true h1]
                    clear h1
                    go_wp2_with fail
                    go_ret
                    exact ⟨rfl, KR.out⟩
                  · have hop : ∀ t, binOp .gtr t (.int .i64 y) (.int .i64 1099511627776) = pure (.bool false) := fun t => by rw [binOp_gtr, decide_eq_false h1]
                    by_cases h2 : y < -1099511627776
                    · have hop2 : ∀ t, binOp .lss t (.int .i64 y) (.int .i64 (-1099511627776)) = pure (.bool true) := fun t => by rw [binOp_lss, decide_eq_true h2]
                      clear h1 h2
                      go_wp2_with fail
                      go_ret
                      exact ⟨rfl, KR.out⟩
                    · have hop2 : ∀ t, binOp .lss t (.int .i64 y) (.int .i64 (-1099511627776)) = pure (.bool false) := fun t => by rw [binOp_lss, decide_eq_false h2]
                      have HY := hid (sclass_abs h1 h2)
                      clear h1 h2
                      go_wp2_with fail
                      go_roundw
                      case rel => exact ⟨q + 1, hlt, by go_num, sclass_ints HA.out HEN.out HY.out, by trivial⟩
                      case measure => simp [intOf]; omega
                · obtain rfl : q = U := by omega
                  have HUA : Hid (∀ y ∈ S, y.natAbs ≤ 1099511627776) := hid (by have := HA.out; rwa [List.take_of_length_le (by rw [HU.out]; exact Nat.le_refl _)] at this)
                  clear HA hlt hq hUb
                  go_wp2_with fail
                  go_loopw [22, 161] (fun _ xi wv => ∃ j : Nat, j ≤ N ∧ xi = .int .i64 (j : Int) ∧ (∀ y ∈ x.take j, y.natAbs ≤ 32768) ∧ wv = wr) (fun _ xi _ => N - (intOf xi).toNat)
                  case atStart => exact ⟨0, Nat.zero_le _, rfl, fun y hy => by simp at hy, rfl⟩
                  case round =>
                    obtain ⟨j, hj, rfl, ha, rfl⟩ := hrel
                    have HA := hid ha
                    clear ha
                    by_cases hlt : j < N
                    · obtain ⟨b1, o1, y, rfl, l1, en, d1⟩ := (RX.out.on KR.out).at_ (k := j) (by rw [HN.out]; exact hlt)
                      have HEN := hid en
                      clear en
                      by_cases h1 : y > 32768
                      · go_wp2_with fail
                        go_ret
                        exact ⟨rfl, KR.out⟩
                      · by_cases h2 : y < -32768
                        · go_wp2_with fail
                          go_ret
                          exact ⟨rfl, KR.out⟩
                        · have HY := hid (sclass_abs2 h1 h2)
                          go_wp2_with fail
                          go_roundw
                          case rel => exact ⟨j + 1, hlt, by go_num, sclass_ints HA.out HEN.out HY.out, by trivial⟩
                          case measure => (try clear h1 h2); simp [intOf]; omega
                    · obtain rfl : j = N := by omega
                      have HXA : ∀ y ∈ x, y.natAbs ≤ 32768 := by have := HA.out; rwa [List.take_of_length_le (by rw [HN.out]; exact Nat.le_refl _)] at this
                      obtain ⟨z1, z2, z3, z4⟩ := HUP.out HUA.out HXA (by trivial)
                      have iz := HI.out HUA.out
                      have hcap := own_cap HOW.out
                      have RW := hid (own_rd (xs := upW (j + 1) c S) (by rw [HUL2.out]; exact HOW.out))
                      have E3 := hid (fun W (h : Below wr.heap.size wr W) => D3.out iz A5 c5 hcap.1 hcap.2 W (RW.out.on h) ((RX.out.on KR.out).on h))
                      have E4 := hid (fun W (h : Below wr.heap.size wr W) => D4.out iz A5 c5 hcap.1 hcap.2 W (RW.out.on h) ((RX.out.on KR.out).on h))
                      rw [z1, z2] at E3
                      rw [z3, z4] at E4
                      have tC : ((C : Int) == (C : Int)) = true := by simp
                      clear z1 z2 z3 z4 iz hcap HXA HA hlt hj D3 D4 HI HUP
                      go_wp2_with fail
                      refine (E3.out _ (Below.refl _ _)).mono ?_
                      rintro _ w7 ⟨A7, c7, rfl, ho7, h7⟩
                      have J7 := hid h7
                      have R7 := hid (own_rd ho7)
                      clear h7 ho7
                      go_wp2_with fail
                      refine (E4.out _ J7.out).mono ?_
                      rintro _ w8 ⟨rfl, h8⟩
                      have J8 : Hid (Below wr.heap.size wr w8) := hid (J7.out.trans (h8.mono J7.out.size))
                      have K8 : Hid (Below w.heap.size w w8) := hid (KR.out.trans (J8.out.mono KR.out.size))
                      have CS := hid (sf_rsame (A := some ⟨g, o4, none⟩) (B := A7) (c := c3) (d := c7) P (by have := HCAP.out; rw [HL.out]; omega) w8 (R4w.out.on J8.out) (R7.out.on h8))
                      rw [HL.out] at CS ⊢
                      clear h8
                      go_wp2_with fail
                      refine CS.out.mono ?_
                      rintro _ w9 ⟨rfl, h9⟩
                      have K9 : Hid (Below w.heap.size w w9) := hid (K8.out.trans (h9.mono K8.out.size))
                      clear h9
                      go_wp2_with fail
                      go_ret
                      exact ⟨rfl, K9.out⟩
    · have hne : (E != 0) = true := by simpa using hE
      have herr := HERR.out hE
      have HD : Hid (D = 0 ∨ E = D) := hid herr
      clear herr HERR HCL HUP HI D3 D4 hE hx2
      go_wp2_with fail
      refine (D1.out _ (RU.out.on K2.out) (RX.out.on K2.out)).mono ?_
      rintro _ w3 ⟨A3, c3, rfl, ho3, h3⟩
      have K3 : Hid (Below w.heap.size w w3) := hid (K2.out.trans (h3.mono K2.out.size))
      clear h3 ho3 D1
      go_wp2_with fail
      refine (D2.out _ (RU.out.on K3.out) (RX.out.on K3.out)).mono ?_
      rintro _ w4 ⟨rfl, h4⟩
      have K4 : Hid (Below w.heap.size w w4) := hid (K3.out.trans (h4.mono K3.out.size))
      clear h4 D2
      by_cases hD0 : D = 0
      · subst hD0
        go_wp2_with fail
        go_ret
        exact ⟨rfl, K4.out⟩
      · have hde : E = D := by
          rcases HD.out with h | h
          · exact absurd h hD0
          · exact h
        subst hde
        have t5 : (E == 0) = false := beq_eq_false_iff_ne.2 hD0
        clear hD0
        go_wp2_with fail
        go_ret
        exact ⟨rfl, K4.out⟩
theorem law_types : ∀ t ∈ Try.f5.params.toList, Try.prog.readableRec t = true ∧ t < Try.prog.types.size := by
  have h : (Try.f5.params.toList.all fun t => Try.prog.readableRec t && decide (t < Try.prog.types.size)) = true := by kernel_rfl
  intro t ht
  simpa using List.all_eq_true.1 h t ht
set_option maxRecDepth 100000 in
theorem lifted (os : Os) (started : os.Started) (H : Type) (enc : TypeId × Value → H) :
    ReturnsInHanded {} Try.checked os 5 .any (Rows.softClassSpec.pre6 enc Try.prog Try.f5 Rows.softClassRow.domain false) (Rows.softClassSpec.post enc Try.prog Try.f5 false true false false) := by
  refine returnsInHanded_of_change (C := Try.checked) own started (by kernel_rfl) Try.func5
    (ChangeSpec.witness6 (enc := enc) (C := Try.checked) false ⟨#[], #[.int .i64 0, .slice none 0 0, .slice none 0 0, .int .i64 0, .int .i64 0], []⟩ 8 (by kernel_rfl) (by kernel_rfl) (by kernel_rfl) (by kernel_rfl)) ?_
  intro W base args ds gs before hval0 hW hcnd _
  have hval : ∀ (j : Nat) t v, Try.f5.params[j]? = some t → args[j]? = some v → Value.okWide Try.prog W .any base t v := hval0
  have hW' := hW
  obtain ⟨p, q, hA0, hV, rfl, hfz, hnd⟩ := hW
  have hA : DataW.TrodAll enc Try.prog W 0 (fun _ => true) true Try.f5.params.toList args.toList ds p := hA0
  rw [Try.params5] at hA hval
  obtain ⟨v0, vs0, d0, ds0, p0, q0, hargs, rfl, rfl, h0, r0⟩ := trodAll_cons hA
  obtain ⟨v1, vs1, d1, ds1, p1, q1, rfl, rfl, rfl, h1, r1⟩ := trodAll_cons r0
  obtain ⟨v2, vs2, d2, ds2, p2, q2, rfl, rfl, rfl, h2, r2⟩ := trodAll_cons r1
  obtain ⟨v3, vs3, d3, ds3, p3, q3, rfl, rfl, rfl, h3, r3⟩ := trodAll_cons r2
  obtain ⟨v4, vs4, d4, ds4, p4, q4, rfl, rfl, rfl, h4, r4⟩ := trodAll_cons r3
  obtain ⟨rfl, rfl, rfl⟩ := trodAll_nil r4
  obtain rfl : args = #[v0, v1, v2, v3, v4] := by cases args; simp_all
  obtain ⟨rfl, rfl⟩ := trodVars_none hV
  obtain ⟨o, rfl, rfl, rfl, w0⟩ := open_int Try.underlying3 (hval 0 3 v0 rfl rfl) h0
  obtain ⟨Au, u, cu, rfl, rdu, iu, lcu, lmu⟩ := open_nums Try.underlying22 Try.underlying2 cells_i64' (hval 1 22 v1 rfl rfl) h1
  obtain ⟨Ax, x, cx, rfl, rdx, ix, lcx, lmx⟩ := open_nums Try.underlying22 Try.underlying2 cells_i64' (hval 2 22 v2 rfl rfl) h2
  obtain ⟨f, rfl, rfl, rfl, w3⟩ := open_int Try.underlying3 (hval 3 3 v3 rfl rfl) h3
  obtain ⟨b, rfl, rfl, rfl, w4⟩ := open_int Try.underlying2 (hval 4 2 v4 rfl rfl) h4
  clear hA0 hval0
  refine (walk o Au u cu Ax x cx f b W (I64.of_wf w0) rdu (fun x hx => I64.of_wf (iu x hx)) lcu lmu rdx (fun x hx => I64.of_wf (ix x hx)) lcx lmx (I64.of_wf w3) (I64.of_wf w4)).mono fun e W' ⟨he, hb⟩ => ?_
  subst he
  exact ⟨_, rfl, law_post laid (fun t ht => law_types t ht) rfl hW' ⟨rfl, rfl, rfl⟩ (by kernel_rfl) Try.underlying4 hb⟩

theorem over : Rows.softClassRow.holds Try.pinned (OpenSpec.ofChange Rows.softClassSpec) :=
  OpenClaim.holds_of_wide 5 Try.f5 rfl rfl rfl rfl rfl rfl rfl ⟨rfl, rfl, rfl, rfl, rfl⟩ rfl rfl rfl rfl rfl (by kernel_rfl) Try.func5 (by kernel_rfl)
    (of_decide_eq_true (by kernel_rfl)) (by unfold Func.isWrapper; first | (rw [if_pos (by decide +kernel)]; kernel_rfl) | (rw [if_neg (by decide +kernel)]; exact ⟨rfl, rfl⟩))
    (fun os started H enc _ => lifted os started H enc)

theorem proved : Rows.SoftClassSaid := over
end Go.Proofs.Ytehbdnehlfplaaa.SoftClass
