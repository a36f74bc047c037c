
/-
  MlpRight answers true for every input. No condition.
-/
import Derived.Test.YtekpejemfkjhcaaUf
import Derived.Test.YtekpejemfkjhcaaUc
import Derived.Test.YtekpejemfkjhcaaUb
import Derived.Test.YtekpejemfkjhcaaUa
namespace Go.Proofs.Ytekpejemfkjhcaa.MlpRight
open Go.ChangeShapes Go.WideShapes Go.ChangeAt Go.RowKit
set_option maxHeartbeats 400000
set_option linter.unusedVariables false
open Go.Proofs.Ytekpejemfkjhcaa
theorem mright_all {l : List SmpV} {k : Nat} {s : SmpV} {P : SmpV → Prop} (h : ∀ x ∈ l.take k, P x) (hs : l[k]? = some s) (hp : P s) : ∀ x ∈ l.take (k + 1), P x := by
  rw [List.take_add_one, hs]
  intro x hx
  rcases List.mem_append.1 hx with hx | hx
  · exact h x hx
  · simp at hx; subst hx; exact hp
/-- What they tell. -/
def mrightS (o : Int) (u : List Int) (f : Int) (s : SmpV) : SmpV := ⟨s.X, mqV o u s.X f⟩
theorem mright_of {o : Int} {u : List Int} {f : Int} {l : List SmpV} (h : ∀ s ∈ l, mqE o u s.X f = 0) : ∀ s ∈ l.map (mrightS o u f), mqE o u s.X f = 0 ∧ s.Y = mqV o u s.X f := fun s hs => by
  obtain ⟨r, hr, rfl⟩ := List.mem_map.1 hs
  exact ⟨h r hr, rfl⟩
/-- The numbers from a on, as far as i, are zeros. -/
def flG (u : List Int) (a i : Nat) : List Int := (List.range u.length).map fun j => if a ≤ j ∧ j < i then 0 else u.getD j 0
theorem flG_len (u : List Int) (a i : Nat) : (flG u a i).length = u.length := by unfold flG; simp
theorem flG_get {u : List Int} {a i j : Nat} (h : j < (flG u a i).length) : (flG u a i)[j] = if a ≤ j ∧ j < i then 0 else u.getD j 0 := by simp [flG]
theorem flG_none (u : List Int) (a : Nat) : flG u a a = u := by
  apply List.ext_getElem
  · rw [flG_len]
  · intro j h1 h2
    rw [flG_get, if_neg (by omega), List.getD_eq_getElem?_getD, List.getElem?_eq_getElem h2, Option.getD_some]
theorem flG_step {u : List Int} {a i : Nat} (h1 : a ≤ i) (h2 : i < u.length) : (flG u a i).set i 0 = flG u a (i + 1) := by
  apply List.ext_getElem
  · rw [List.length_set, flG_len, flG_len]
  · intro j h3 h4
    rw [List.getElem_set, flG_get, flG_get]
    by_cases e : i = j
    · subst e
      rw [if_pos rfl, if_pos (by omega)]
    · rw [if_neg e]
      by_cases h5 : a ≤ j ∧ j < i
      · rw [if_pos h5, if_pos (by omega)]
      · rw [if_neg h5, if_neg (by omega)]
theorem flG_flat (o : Int) (u : List Int) : flG u (u.length - 1 - o.toNat) (u.length - 1) = flatW o u := rfl
theorem flatW_i64 {o : Int} {u : List Int} (h : I64s u) : I64s (flatW o u) := fun x hx => by
  unfold flatW at hx
  obtain ⟨i, hi, rfl⟩ := List.mem_map.1 hx
  split
  · decide
  · rw [List.getD_eq_getElem?_getD, List.getElem?_eq_getElem (List.mem_range.1 hi), Option.getD_some]
    exact h _ (List.getElem_mem _)
theorem mright_next {v : List Int} {w : World} {base c k : Nat} {A : Option Addr} (h : w.ownsRow base 2 1 (.slice A v.length c) v.length (v.map (Value.int .i64))) (hk : k < v.length) :
    ∃ g x, A = some ⟨g, 0, none⟩ ∧ base ≤ g ∧ w.cell? ⟨g, k, none⟩ = some (.int .i64 x) ∧ w.frozen? ⟨g, k, none⟩ = false ∧
      ∀ y, (w.setCell ⟨g, k, none⟩ (.int .i64 y)).ownsRow base 2 1 (.slice A (v.set k y).length c) (v.set k y).length ((v.set k y).map (Value.int .i64)) := by
  obtain ⟨g, rfl, hg, hc, hf⟩ := own_cellk h hk
  refine ⟨g, _, rfl, hg, hc, hf, fun y => ?_⟩
  have := (h.stored k (.int .i64 y)).1
  rw [← List.map_set] at this
  rw [List.length_set]
  exact this
theorem mright_parts {o : Int} {u x : List Int} {f : Int} (h : mqE o u x f = 0) : (1 ≤ o ∧ o ≤ 8) ∧ o.toNat + 1 < u.length ∧ (0 ≤ f ∧ f ≤ 30) := by
  obtain ⟨a1, _, a3, _⟩ := mhE_ok.1 (mqE_ok.1 h).1
  obtain ⟨b1, b2, b3⟩ := msE_ok.1 a1
  refine ⟨b1, ?_, a3⟩
  have h1 : 1 * 1 ≤ o.toNat * (msN o u + 1) := Nat.mul_le_mul (by omega) (by omega)
  omega
theorem flZ {xs : List Int} {n k : Nat} {z : Int} (h : ∀ k, k < n → xs.getD k 0 = 0) (hk : k < n) (hz : xs[k]? = some z) : z = 0 := by
  have := h k hk
  rw [List.getD_eq_getElem?_getD, hz] at this
  exact this
set_option maxHeartbeats 4000000 in
set_option maxRecDepth 100000 in
theorem walk (o : Int) (Au : Option Addr) (u : List Int) (cu : Nat) (f : Int) (Al : Option Addr) (l : List SmpV) (cl : Nat) (w : World) (ho : I64 o)
    (ru : Rd (Value.int .i64) w w.heap.size Au u) (iu : I64s u) (lcu : u.length ≤ cu) (lmu : cu ≤ 9223372036854775807) (hf : I64 f)
    (rl : RdSm w w.heap.size Al l) (il : ∀ s ∈ l, I64s s.X ∧ I64 s.Y ∧ s.X.length ≤ 9223372036854775807) (lcl : l.length ≤ cl) (lml : cl ≤ 9223372036854775807) :
    Calls Try.prog 5 #[.int .i64 o, .slice Au u.length cu, .int .i64 f, .slice Al l.length cl] w fun e w' => e = .returned (.bool true) ∧ Below w.heap.size w w' := by
  have hul : u.length ≤ 9223372036854775807 := by omega
  have hll : l.length ≤ 9223372036854775807 := by omega
  have C0 := hid (fun W h => ref_Few14 (Aw := Au) (A := Al) (cw := cu) (c := cl) u.length hul l hll W h)
  have C1 := hid (fun (s : SmpV) (hs : s ∈ l) (hx : s.X.length ≤ 1099511627776) (Ax : Option Addr) (cx : Nat) W h1 h2 => ml_Tell (Au := Au) (Ax := Ax) (cu := cu) (cx := cx) o ho u s.X lcu lmu iu hx (il s hs).1 f W h1 h2)
  obtain ⟨m, hm⟩ : ∃ m, l.map (mrightS o u f) = m := ⟨_, rfl⟩
  have hml : m.length = l.length := by rw [← hm, List.length_map]
  have himl : ∀ s ∈ m, I64s s.X ∧ I64 s.Y ∧ s.X.length ≤ 9223372036854775807 := fun s hs => by
    rw [← hm] at hs
    obtain ⟨r, hr, rfl⟩ := List.mem_map.1 hs
    exact ⟨(il r hr).1, mqV_i64 _ _ _ _, (il r hr).2.2⟩
  have C2 := hid (fun (A : Option Addr) (c : Nat) W h1 h2 => ml_Grad (Aw := Au) (A := A) (cw := cu) (c := c) o ho u lcu lmu iu f m (by rw [hml]; exact hll) himl W h1 h2)
  have C3 := hid (fun (A : Option Addr) (c : Nat) (h1 : (flatW o u).length ≤ c) (h2 : c ≤ 9223372036854775807) W h3 h4 => ml_Grad (Aw := A) (A := Al) (cw := c) (c := cl) o ho (flatW o u) h1 h2 (flatW_i64 iu) f l hll il W h3 h4)
  have HT := hid (fun (h : ∀ s ∈ l, mqE o u s.X f = 0) (hne : m ≠ []) (h64 : m.length ≤ 64) => mlp_right (hid := o) (w := u) (f := f) (ls := m) (by rw [← hm]; exact mright_of h) hne h64)
  have HFL := hid (fun h (hf : 0 ≤ f ∧ f ≤ 30) => mlp_flat (hid := o) (w := u) (f := f) (ls := l) h hf)
  have HP := hid (fun x h => mright_parts (o := o) (u := u) (x := x) (f := f) h)
  have hfew : fewL u.length l = true → (u.length ≤ 500 ∧ l.length ≤ 100) ∧ ∀ s ∈ l, s.X.length ≤ 1099511627776 := fun h => by
    unfold fewL at h
    simp only [Bool.and_eq_true, decide_eq_true_eq, List.all_eq_true] at h
    exact ⟨h.2, fun s hs => by have := h.1 s hs; omega⟩
  obtain ⟨F, hF⟩ : ∃ F, fewL u.length l = F := ⟨_, rfl⟩
  obtain ⟨V, hV⟩ : ∃ V, mgV o u f m = V := ⟨_, rfl⟩
  obtain ⟨E, hE⟩ : ∃ E, mgE o u f m = E := ⟨_, rfl⟩
  obtain ⟨V2, hV2⟩ : ∃ V, mgV o (flatW o u) f l = V := ⟨_, rfl⟩
  obtain ⟨E2, hE2⟩ : ∃ E, mgE o (flatW o u) f l = E := ⟨_, rfl⟩
  rw [hF] at C0 hfew
  rw [hV, hE] at C2 HT
  rw [hml] at C2 HT
  rw [hV2, hE2] at C3 HFL
  have hfl := flatW_len o u
  rw [hfl] at C3
  have hG0 := hid (fun a => flG_none u a)
  have hGS := hid (fun (a i : Nat) h1 h2 => flG_step (u := u) (a := a) (i := i) h1 h2)
  have hGL := hid (fun (a i : Nat) => flG_len u a i)
  have hGF := hid (flG_flat o u)
  obtain ⟨U, hU⟩ : ∃ U, u.length = U := ⟨_, rfl⟩
  obtain ⟨M, hM⟩ : ∃ M, l.length = M := ⟨_, rfl⟩
  rw [hU] at C0 C1 C2 C3 HT HFL HP hfew hGS hGL hGF ⊢
  rw [hM] at C0 C2 C3 HT hfew hml ⊢
  have HU := hid hU
  have HML := hid hM
  have HMM := hid hml
  have HMD := hid hm
  have RU := hid ru
  have RL := hid rl
  have HIL := hid il
  have hcu2 : U ≤ cu := by omega
  have HCU := hid (⟨hcu2, lmu⟩ : U ≤ cu ∧ cu ≤ 9223372036854775807)
  clear hF hV hE hV2 hE2 hM hml hm himl ru rl il iu lcl lml lcu lmu hf hul hll hU hfl hcu2 ho
  cases F with
  | false =>
    clear hfew
    go_enter Try.func5, Try.ntmps5
    go_wp2_with fail
    refine (ml_live _).mono ?_
    rintro _ w1 ⟨rfl, h1⟩
    have K1 := hid h1
    clear h1
    go_wp2_with fail
    refine (C0.out _ (RL.out.on K1.out)).mono ?_
    rintro _ w2 ⟨rfl, h2⟩
    have K2 : Hid (Below w.heap.size w w2) := hid (K1.out.trans (h2.mono K1.out.size))
    clear h2
    go_wp2_with fail
    go_ret
    exact ⟨rfl, K2.out⟩
  | true =>
    obtain ⟨⟨hu5, hl1⟩, hX⟩ := hfew rfl
    have HL1 := hid hl1
    have HU5 := hid hu5
    have HX := hid hX
    clear hfew hX
    by_cases hM0 : M = 0
    · subst hM0
      clear hl1
      go_enter Try.func5, Try.ntmps5
      go_wp2_with fail
      refine (ml_live _).mono ?_
      rintro _ w1 ⟨rfl, h1⟩
      have K1 := hid h1
      clear h1
      go_wp2_with fail
      refine (C0.out _ (RL.out.on K1.out)).mono ?_
      rintro _ w2 ⟨rfl, h2⟩
      have K2 : Hid (Below w.heap.size w w2) := hid (K1.out.trans (h2.mono K1.out.size))
      clear h2 C0
      go_wp2_with fail
      go_ret
      exact ⟨rfl, K2.out⟩
    · have t0 : ((M : Int) == 0) = false := beq_eq_false_iff_ne.2 (by omega)
      have HM0 : Hid (0 < M) := hid (by omega)
      by_cases hM64 : M > 64
      · have t1 : (M : Int) > 64 := by omega
        clear hM0 hM64
        go_enter Try.func5, Try.ntmps5
        go_wp2_with fail
        refine (ml_live _).mono ?_
        rintro _ w1 ⟨rfl, h1⟩
        have K1 := hid h1
        clear h1
        go_wp2_with fail
        refine (C0.out _ (RL.out.on K1.out)).mono ?_
        rintro _ w2 ⟨rfl, h2⟩
        have K2 : Hid (Below w.heap.size w w2) := hid (K1.out.trans (h2.mono K1.out.size))
        clear h2 C0
        go_wp2_with fail
        go_ret
        exact ⟨rfl, K2.out⟩
      · have t1 : ¬ (M : Int) > 64 := by omega
        have HM64 : Hid (M ≤ 64) := hid (by omega)
        clear hM0 hM64
        go_enter Try.func5, Try.ntmps5
        go_wp2_with fail
        refine (ml_live _).mono ?_
        rintro _ w1 ⟨rfl, h1⟩
        have K1 := hid h1
        clear h1
        go_wp2_with fail
        refine (C0.out _ (RL.out.on K1.out)).mono ?_
        rintro _ w2 ⟨rfl, h2⟩
        have K2 : Hid (Below w.heap.size w w2) := hid (K1.out.trans (h2.mono K1.out.size))
        have hza := K2.out.size
        clear h2 C0
        go_wp2_with fail
        clear t0 t1
        go_loopw [10, 12, 13, 14, 44] (fun xb _ _ _ xi wv => ∃ (k : Nat) (A2 : Option Addr) (c2 : Nat), k ≤ M ∧ xi = .int .i64 (k : Int) ∧ xb = .slice A2 k c2 ∧ OwnSm wv w.heap.size w2.heap.size A2 c2 (m.take k) ∧ (∀ x ∈ l.take k, mqE o u x.X f = 0) ∧ Below w2.heap.size w2 wv) (fun _ _ _ _ xi _ => M - (intOf xi).toNat)
        case atStart => exact ⟨0, none, 0, Nat.zero_le _, rfl, rfl, OwnSm.nil _ _ _, fun x hx => by simp at hx, Below.refl _ _⟩
        case round =>
          obtain ⟨k, A2, c2, hk, rfl, rfl, ho, ha, hbel⟩ := hrel
          have HO := hid ho
          have HA := hid ha
          have HB := hid hbel
          have KR : Hid (Below w.heap.size w wr) := hid (K2.out.trans (hbel.mono K2.out.size))
          clear ho ha
          by_cases hlt : k < M
          · obtain ⟨b1, o1, s, Ax, cx, rfl, l1, en, g0, g1, rx⟩ := (RL.out.below KR.out).at_ (k := k) (by rw [HML.out]; exact hlt)
            have hz1 := KR.out.size
            have HEN := hid en
            obtain ⟨w5, hw5⟩ : ∃ w5, wr.alloc (.cells #[.slice Ax s.X.length cx, .int .i64 s.Y] 24) = w5 := ⟨_, rfl⟩
            have kb5 : Below wr.heap.size wr w5 := by rw [← hw5]; exact ml_grow _ _
            have z5 : wr.heap.size < w5.heap.size := by rw [← hw5]; simp
            have m0 : w5.cell? ⟨wr.heap.size, 0, none⟩ = some (.slice Ax s.X.length cx) := by rw [← hw5]; simp [go_sem]
            have KK5 := hid (KR.out.trans (kb5.mono KR.out.size))
            have HB5 : Hid (Below w2.heap.size w2 w5) := hid (HB.out.trans (kb5.mono HB.out.size))
            have HO5 := hid (HO.out.on hz1 kb5)
            have HRX5 := hid (rx.below (kb5.mono hz1))
            have CT := hid (C1.out s (List.mem_of_getElem? en) (HX.out s (List.mem_of_getElem? en)) Ax cx w5 (RU.out.on KK5.out) (HRX5.out.more KK5.out.size))
            have hmk : Hid (m.take (k + 1) = m.take k ++ [⟨s.X, mqV o u s.X f⟩]) := hid (by
              rw [List.take_add_one, ← HMD.out, List.getElem?_map, en]
              rfl)
            obtain ⟨X, hXl⟩ : ∃ X, s.X.length = X := ⟨_, rfl⟩
            obtain ⟨Y, hYl⟩ : ∃ Y, s.Y = Y := ⟨_, rfl⟩
            obtain ⟨T, hT⟩ : ∃ T, mqV o u s.X f = T := ⟨_, rfl⟩
            obtain ⟨e, he⟩ : ∃ e, mqE o u s.X f = e := ⟨_, rfl⟩
            rw [hXl] at g0 m0 hw5 CT
            rw [hYl] at g1 hw5
            rw [hT] at hmk CT
            rw [he] at CT
            have HXX := hid hXl
            have HEE := hid he
            clear en rx hXl hYl hT he kb5 hbel
            by_cases he0 : e = 0
            · subst he0
              go_wp2_with fail
              refine CT.out.mono ?_
              rintro _ w6 ⟨rfl, h6⟩
              have m0' := (h6.cell (p := ⟨wr.heap.size, 0, none⟩) z5).trans m0
              have HO6 := hid (HO5.out.on KK5.out.size h6)
              have KK6 : Hid (Below w.heap.size w w6) := hid (KK5.out.trans (h6.mono KK5.out.size))
              have HB6 : Hid (Below w2.heap.size w2 w6) := hid (HB5.out.trans (h6.mono HB5.out.size))
              have HRX6 := hid (HRX5.out.below (h6.mono KK5.out.size))
              obtain ⟨w7, hw7⟩ : ∃ w7, w6.alloc (.cells #[.slice Ax X cx, .int .i64 T] 24) = w7 := ⟨_, rfl⟩
              have kb7 : Below w6.heap.size w6 w7 := by rw [← hw7]; exact ml_grow _ _
              have n0 : w7.cell? ⟨w6.heap.size, 0, none⟩ = some (.slice Ax s.X.length cx) := by rw [← hw7, HXX.out]; simp [go_sem]
              have n1 : w7.cell? ⟨w6.heap.size, 1, none⟩ = some (.int .i64 T) := by rw [← hw7]; simp [go_sem]
              have HO7 := HO6.out.on KK6.out.size kb7
              have RX7 := HRX6.out.below (kb7.mono KK6.out.size)
              have hLk : (m.take k).length = k := by rw [List.length_take, HMM.out]; omega
              obtain ⟨L, hL⟩ : ∃ L, m.take k = L := ⟨_, rfl⟩
              have HNX2 : Hid (m.take (k + 1) = L ++ [⟨s.X, T⟩]) := hid (by rw [hmk.out, hL])
              rw [hL] at hLk HO7
              have HLK := hid hLk
              have HB7 : Hid (Below w2.heap.size w2 w7) := hid (HB6.out.trans (kb7.mono HB6.out.size))
              have hz7 := HB7.out.size
              have HKM := hid hlt
              clear h6 kb7 hLk hL hmk hw5 m0 g0 g1 z5
              go_wp2_with (at_builtin; refine wpList_appS _ rfl _ _ rfl (ls := L) (by rw [HLK.out]; rfl) HO7 hza w6.heap.size 1 rfl ⟨s.X, T⟩ n0 n1 RX7 (by rw [HLK.out]; have := HL1.out; omega) hz7 ?_)
              rintro A8 c8 w8 ho8 hb8 _
              rw [HLK.out]
              rw [← HNX2.out] at ho8
              have HO8 := hid ho8
              have HB8 : Hid (Below w2.heap.size w2 w8) := hid (HB7.out.trans hb8)
              clear ho8 hb8 n0 n1 hw7 HO7 RX7 hz7 hz1 m0'
              go_wp2_with fail
              go_roundw
              case rel => exact ⟨k + 1, A8, c8, HKM.out, by go_num, rfl, HO8.out, mright_all HA.out HEN.out HEE.out, HB8.out⟩
              case measure => have := HKM.out; simp [intOf]; omega
            · have hne : (e != 0) = true := by simpa using he0
              clear he0
              go_wp2_with fail
              refine CT.out.mono ?_
              rintro _ w6 ⟨rfl, h6⟩
              have KK6 : Hid (Below w.heap.size w w6) := hid (KK5.out.trans (h6.mono KK5.out.size))
              clear h6 m0 hw5
              go_wp2_with fail
              go_ret
              exact ⟨rfl, KK6.out⟩
          · obtain rfl : k = M := by omega
            have HSA : ∀ x ∈ l, mqE o u x.X f = 0 := by have := HA.out; rwa [List.take_of_length_le (by rw [HML.out]; exact Nat.le_refl _)] at this
            have ho := HO.out
            rw [List.take_of_length_le (by rw [HMM.out]; exact Nat.le_refl _)] at ho
            have RB := hid (ho.rd KR.out.size)
            obtain ⟨rfl, hVl, hV0⟩ := HT.out HSA (fun e => by have := HMM.out; have := HM0.out; rw [e] at *; simp at *; omega) HM64.out
            have D2 := hid (C2.out A2 c2 wr (RU.out.on KR.out) RB.out)
            have hs0 : ∃ s, s ∈ l := ⟨l[0]'(by rw [HML.out]; exact HM0.out), List.getElem_mem _⟩
            obtain ⟨s0, hs0⟩ := hs0
            obtain ⟨⟨o1, o8⟩, hHU, hf30⟩ := HP.out s0.X (HSA s0 hs0)
            obtain ⟨H, rfl⟩ : ∃ H : Nat, o = (H : Int) := ⟨o.toNat, by omega⟩
            rw [show ((H : Int)).toNat = H from rfl] at hHU hGF HFL
            obtain ⟨a, ha⟩ : ∃ a, U - 1 - H = a := ⟨_, rfl⟩
            obtain ⟨U1, hU1⟩ : ∃ U1, U - 1 = U1 := ⟨_, rfl⟩
            have haU : a + H = U1 := by omega
            have hUU : U1 + 1 = U := by omega
            rw [ha] at hGF HFL
            rw [hU1] at hGF
            have HF30 := hid hf30
            have HV0 := hid hV0
            have HVl := hid hVl
            have HAU := hid haU
            have HUU := hid hUU
            have hp1 : IntKind.i64.wrap ((U : Int) - 1) = (U1 : Int) := by rw [show (U : Int) - 1 = (U1 : Int) by omega]; exact Go.IntWalk.i64_in _ (by have := HU5.out; omega)
            have hp2 : IntKind.i64.wrap ((U1 : Int) - (H : Int)) = (a : Int) := by rw [show (U1 : Int) - (H : Int) = (a : Int) by omega]; exact Go.IntWalk.i64_in _ (by have := HU5.out; omega)
            have hp3 : ¬ (H : Int) < 1 := by omega
            have hp4 : ¬ (a : Int) < 0 := by omega
            have HP1 := hid hp1
            have HP2 := hid hp2
            have HP3 := hid hp3
            have t2 : ((U : Int) != (U : Int)) = false := by simp
            clear ho HO HA hbel hlt hk C1 C2 HT HSA hs0 hf30 hVl hV0 ha hU1 haU hUU hHU HP o1 o8 hp1 hp2 hp3 hp4
            go_wp2_with fail
            refine D2.out.mono ?_
            rintro _ w4 ⟨A4, c4, rfl, ho4, h4⟩
            have J4 := hid h4
            have R4 := hid (own_rd ho4)
            rw [HVl.out]
            clear h4 ho4 D2
            go_wp2_with fail
            clear t2
            generalize wr = wo at *
            go_loopw [18, 87] (fun _ xi wv => ∃ i : Nat, i ≤ U ∧ xi = .int .i64 (i : Int) ∧ wv = w4) (fun _ xi _ => U - (intOf xi).toNat)
            case atStart => exact ⟨0, Nat.zero_le _, rfl, rfl⟩
            case round =>
              obtain ⟨i, hi, rfl, rfl⟩ := hrel
              by_cases hlt : i < U
              · obtain ⟨b5, o5, x, rfl, l5, ex, d5⟩ := R4.out.at_ (k := i) (by rw [HVl.out]; exact hlt)
                obtain rfl : x = 0 := HV0.out x (List.mem_of_getElem? ex)
                clear ex
                go_wp2_with fail
                go_roundw
                case rel => exact ⟨i + 1, hlt, by go_num, by trivial⟩
                case measure => simp [intOf]; omega
              · obtain rfl : i = U := by omega
                have K4 : Hid (Below w.heap.size w wr) := hid (KR.out.trans (J4.out.mono KR.out.size))
                have RU4 := RU.out.on K4.out
                clear hlt hi R4
                go_wp2_with (at_builtin; refine wpList_app (Value.int .i64) (fun _ => rfl) _ rfl _ _ 22 rfl wr.heap.size 2 (.int .i64 0) 8 Try.underlying22 info_i64 rfl [] none 0 rfl (own_nil _ _ _) u Au cu _ (by rw [HU.out]; rfl) RU4 (by have := HU.out; have := HU5.out; simp [maxLen]; omega) (by have := HU.out; have := HU5.out; simp; omega) (Nat.le_refl _) ?_)
                rintro S A5 c5 w5 hS ho5 hb5 _
                replace hS : S = flG u a a := by rw [hG0.out]; simpa using hS
                have hSl : S.length = i := by rw [hS, hGL.out]
                rw [hSl]
                rw [hS] at ho5
                rw [hGL.out] at ho5
                have HO5 := hid ho5
                have HB5 := hid hb5
                have HCC := hid (own_cap ho5)
                have hp1 := HP1.out
                have hp2 := HP2.out
                have hp3 := HP3.out
                clear hS ho5 hb5 hSl RU4
                go_wp2_with fail
                clear hp2 hp3
                generalize wr = wq at *
                go_loopw [21] (fun xi wv => ∃ j : Nat, a ≤ j ∧ j ≤ U1 ∧ xi = .int .i64 (j : Int) ∧ wv.ownsRow wq.heap.size 2 1 (.slice A5 i c5) i ((flG u a j).map (Value.int .i64)) ∧ Below wq.heap.size wq wv) (fun xi _ => U1 - (intOf xi).toNat)
                case atStart => exact ⟨a, Nat.le_refl _, by have := HAU.out; omega, rfl, HO5.out, HB5.out⟩
                case round =>
                  obtain ⟨j, hj1, hj2, rfl, ho, hbel⟩ := hrel
                  have HO := hid ho
                  have HB := hid hbel
                  clear ho
                  by_cases hlt : j < U1
                  · have hjU : j < (flG u a j).length := by rw [hGL.out]; have := HUU.out; omega
                    have ho' := HO.out
                    obtain ⟨g, x, rfl, hg, hc, hfz, hnx⟩ := mright_next (v := flG u a j) (w := wr) (base := wq.heap.size) (c := c5) (k := j) (A := A5) (by rw [hGL.out]; exact ho') hjU
                    have hgl : g < wr.heap.size := lt_of_cell hc
                    have HNX : Hid ((wr.setCell ⟨g, j, none⟩ (.int .i64 0)).ownsRow wq.heap.size 2 1 (.slice (some ⟨g, 0, none⟩) i c5) i ((flG u a (j + 1)).map (Value.int .i64))) := hid (by
                      have := hnx 0
                      rw [hGS.out a j hj1 (by have := HUU.out; omega), hGL.out] at this
                      exact this)
                    have HJ := hid hlt
                    have hji : (j : Int) < (i : Int) := by have := HUU.out; omega
                    have hjb : j ≤ 500 := by have := HU5.out; have := HUU.out; omega
                    clear hnx hbel ho' hjU
                    go_wp2_with fail
                    go_roundw
                    case rel => exact ⟨j + 1, by omega, HJ.out, by go_num, HNX.out, HB.out.setCell hg _⟩
                    case measure => have := HJ.out; simp [intOf]; omega
                  · obtain rfl : j = U1 := by omega
                    have ho' := HO.out
                    rw [hGF.out] at ho'
                    have hfl : (flatW (H : Int) u).length = i := by rw [flatW_len]; exact HU.out
                    have KK : Hid (Below w.heap.size w wr) := hid (K4.out.trans (hbel.mono K4.out.size))
                    have RF : Hid (Rd (Value.int .i64) wr wr.heap.size A5 (flatW (H : Int) u)) := hid (own_rd (c := c5) (by rw [hfl]; exact ho'))
                    have D3 := hid (C3.out A5 c5 HCC.out.1 HCC.out.2 wr RF.out (RL.out.on KK.out))
                    clear ho' hfl hbel hlt hj1 hj2 C3
                    go_wp2_with fail
                    refine D3.out.mono ?_
                    rintro _ w7 ⟨A7, c7, rfl, ho7, h7⟩
                    have K7 : Hid (Below w.heap.size w w7) := hid (KK.out.trans (h7.mono KK.out.size))
                    have HO7 := hid ho7
                    have HC7 := hid (own_cap ho7)
                    clear h7 ho7
                    by_cases hE2 : E2 = 0
                    · subst hE2
                      obtain ⟨v1, v2⟩ := HFL.out (by trivial) HF30.out
                      have hai : a < V2.length := by rw [v1]; have := HAU.out; have := HUU.out; omega
                      obtain ⟨g, rfl, hg, _, _⟩ := own_cellk HO7.out hai
                      have HV1 := hid v1
                      have HV2 := hid v2
                      have R7 := hid (own_rd HO7.out)
                      have hac : a ≤ c7 := by have := HC7.out.1; omega
                      have hab : a ≤ 500 := by rw [v1] at hai; have := HU5.out; omega
                      rw [v1]
                      have t2 : ((i : Int) != (i : Int)) = false := by simp
                      clear v1 v2 hai
                      go_wp2_with fail
                      clear t2
                      generalize wr = wz at *
                      go_loopw [23, 138] (fun _ xi wv => ∃ j : Nat, j ≤ a ∧ xi = .int .i64 (j : Int) ∧ wv = w7) (fun _ xi _ => a - (intOf xi).toNat)
                      case atStart => exact ⟨0, Nat.zero_le _, rfl, rfl⟩
                      case round =>
                        obtain ⟨j, hj, rfl, rfl⟩ := hrel
                        by_cases hlt : j < a
                        · obtain ⟨b5, o5, z, e5, l5, ez, d5⟩ := R7.out.at_ (k := j) (by rw [HV1.out]; have := HAU.out; have := HUU.out; omega)
                          cases e5
                          rw [Nat.zero_add] at d5
                          obtain rfl : z = 0 := flZ HV2.out hlt ez
                          clear ez
                          go_wp2_with fail
                          go_roundw
                          case rel => exact ⟨j + 1, hlt, by go_num, by trivial⟩
                          case measure => simp [intOf]; omega
                        · obtain rfl : j = a := by omega
                          clear hlt hj
                          go_wp2_with fail
                          go_ret
                          exact ⟨rfl, K7.out⟩
                    · have hne : (E2 != 0) = true := by simpa using hE2
                      clear hE2
                      go_wp2_with fail
                      go_ret
                      exact ⟨rfl, K7.out⟩
theorem law_types : ∀ t ∈ Try.f5.params.toList, Try.prog.readableRec t = true ∧ t < Try.prog.types.size := by
  have h : (Try.f5.params.toList.all fun t => Try.prog.readableRec t && decide (t < Try.prog.types.size)) = true := by kernel_rfl
  intro t ht
  simpa using List.all_eq_true.1 h t ht
set_option maxRecDepth 100000 in
theorem lifted (os : Os) (started : os.Started) (H : Type) (enc : TypeId × Value → H) :
    ReturnsInHanded {} Try.checked os 5 .any (Rows.mlpRightSpec.pre6 enc Try.prog Try.f5 Rows.mlpRightRow.domain false) (Rows.mlpRightSpec.post enc Try.prog Try.f5 false true false false) := by
  refine returnsInHanded_of_change (C := Try.checked) own started (by kernel_rfl) Try.func5
    (ChangeSpec.witness6 (enc := enc) (C := Try.checked) false ⟨#[], #[.int .i64 0, .slice none 0 0, .int .i64 0, .slice none 0 0], []⟩ 8 (by kernel_rfl) (by kernel_rfl) (by kernel_rfl) (by kernel_rfl)) ?_
  intro W base args ds gs before hval0 hW hcnd _
  have hval : ∀ (j : Nat) t v, Try.f5.params[j]? = some t → args[j]? = some v → Value.okWide Try.prog W .any base t v := hval0
  have hW' := hW
  obtain ⟨p, q, hA0, hV, rfl, hfz, hnd⟩ := hW
  have hA : DataW.TrodAll enc Try.prog W 0 (fun _ => true) true Try.f5.params.toList args.toList ds p := hA0
  rw [Try.params5] at hA hval
  obtain ⟨v0, vs0, d0, ds0, p0, q0, hargs, rfl, rfl, h0, r0⟩ := trodAll_cons hA
  obtain ⟨v1, vs1, d1, ds1, p1, q1, rfl, rfl, rfl, h1, r1⟩ := trodAll_cons r0
  obtain ⟨v2, vs2, d2, ds2, p2, q2, rfl, rfl, rfl, h2, r2⟩ := trodAll_cons r1
  obtain ⟨v3, vs3, d3, ds3, p3, q3, rfl, rfl, rfl, h3, r3⟩ := trodAll_cons r2
  obtain ⟨rfl, rfl, rfl⟩ := trodAll_nil r3
  obtain rfl : args = #[v0, v1, v2, v3] := by cases args; simp_all
  obtain ⟨rfl, rfl⟩ := trodVars_none hV
  obtain ⟨o, rfl, rfl, rfl, w0⟩ := open_int Try.underlying3 (hval 0 3 v0 rfl rfl) h0
  obtain ⟨Au, u, cu, rfl, rdu, iu, lcu, lmu⟩ := open_nums Try.underlying22 Try.underlying2 cells_i64' (hval 1 22 v1 rfl rfl) h1
  obtain ⟨f, rfl, rfl, rfl, w2⟩ := open_int Try.underlying3 (hval 2 3 v2 rfl rfl) h2
  obtain ⟨Al, l, cl, rfl, rdl, il, lcl, lml⟩ := open_smps (hval 3 43 v3 rfl rfl) h3
  clear hA0 hval0
  refine (walk o Au u cu f Al l cl W (I64.of_wf w0) rdu (fun x hx => I64.of_wf (iu x hx)) lcu lmu (I64.of_wf w2) rdl il lcl lml).mono fun e W' ⟨he, hb⟩ => ?_
  subst he
  exact ⟨_, rfl, law_post laid (fun t ht => law_types t ht) rfl hW' ⟨rfl, rfl, rfl⟩ (by kernel_rfl) Try.underlying4 hb⟩

theorem over : Rows.mlpRightRow.holds Try.pinned (OpenSpec.ofChange Rows.mlpRightSpec) :=
  OpenClaim.holds_of_wide 5 Try.f5 rfl rfl rfl rfl rfl rfl rfl ⟨rfl, rfl, rfl, rfl, rfl⟩ rfl rfl rfl rfl rfl (by kernel_rfl) Try.func5 (by kernel_rfl)
    (of_decide_eq_true (by kernel_rfl)) (by unfold Func.isWrapper; first | (rw [if_pos (by decide +kernel)]; kernel_rfl) | (rw [if_neg (by decide +kernel)]; exact ⟨rfl, rfl⟩))
    (fun os started H enc _ => lifted os started H enc)

theorem proved : Rows.MlpRightSaid := over
end Go.Proofs.Ytekpejemfkjhcaa.MlpRight
