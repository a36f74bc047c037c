
/-
  LinearRight answers true for every input. No condition.
-/
import Derived.Test.YtcjkofcgphcjnaaGe
import Derived.Test.YtcjkofcgphcjnaaGc
import Derived.Test.YtcjkofcgphcjnaaGa
namespace Go.Proofs.Ytcjkofcgphcjnaa.LinearRight
open Go.ChangeShapes Go.WideShapes Go.ChangeAt Go.RowKit
set_option maxHeartbeats 400000
set_option linter.unusedVariables false
open Go.Proofs.Ytcjkofcgphcjnaa
theorem right_all {l : List SmpV} {k : Nat} {s : SmpV} {P : SmpV → Prop} (h : ∀ x ∈ l.take k, P x) (hs : l[k]? = some s) (hp : P s) : ∀ x ∈ l.take (k + 1), P x := by
  rw [List.take_add_one, hs]
  intro x hx
  rcases List.mem_append.1 hx with hx | hx
  · exact h x hx
  · simp at hx; subst hx; exact hp
/-- What the line tells. -/
def rightS (u : List Int) (f : Int) (s : SmpV) : SmpV := ⟨s.X, ltV u s.X f⟩
theorem right_of {u : List Int} {f : Int} {l : List SmpV} (h : ∀ s ∈ l, ltE u s.X f = 0) : ∀ s ∈ l.map (rightS u f), ltE u s.X f = 0 ∧ s.Y = ltV u s.X f := fun s hs => by
  obtain ⟨r, hr, rfl⟩ := List.mem_map.1 hs
  exact ⟨h r hr, rfl⟩
theorem right_len {u x : List Int} {f : Int} (h : ltE u x f = 0) : u.length = x.length + 1 := by
  have h1 := (ltE_ok.1 h).1
  have h2 := (lcE_ok.1 h1).2.1
  omega
set_option maxHeartbeats 4000000 in
set_option maxRecDepth 100000 in
theorem walk (Au : Option Addr) (u : List Int) (cu : Nat) (f : Int) (Al : Option Addr) (l : List SmpV) (cl : Nat) (w : World)
    (ru : Rd (Value.int .i64) w w.heap.size Au u) (iu : I64s u) (lcu : u.length ≤ cu) (lmu : cu ≤ 9223372036854775807) (hf : I64 f)
    (rl : RdSm w w.heap.size Al l) (il : ∀ s ∈ l, I64s s.X ∧ I64 s.Y ∧ s.X.length ≤ 9223372036854775807) (lcl : l.length ≤ cl) (lml : cl ≤ 9223372036854775807) :
    Calls Try.prog 5 #[.slice Au u.length cu, .int .i64 f, .slice Al l.length cl] w fun e w' => e = .returned (.bool true) ∧ Below w.heap.size w w' := by
  have hul : u.length ≤ 9223372036854775807 := by omega
  have hll : l.length ≤ 9223372036854775807 := by omega
  have C0 := hid (fun W h => ref_Few14 (Aw := Au) (A := Al) (cw := cu) (c := cl) u.length hul l hll W h)
  have C1 := hid (fun (s : SmpV) (hs : s ∈ l) (Ax : Option Addr) (cx : Nat) W h1 h2 => ln_Tell (Aw := Au) (Ax := Ax) (cw := cu) (cx := cx) u s.X lcu lmu (il s hs).2.2 iu (il s hs).1 f W h1 h2)
  obtain ⟨m, hm⟩ : ∃ m, l.map (rightS u f) = m := ⟨_, rfl⟩
  have hml : m.length = l.length := by rw [← hm, List.length_map]
  have himl : ∀ s ∈ m, I64s s.X ∧ I64 s.Y ∧ s.X.length ≤ 9223372036854775807 := fun s hs => by
    rw [← hm] at hs
    obtain ⟨r, hr, rfl⟩ := List.mem_map.1 hs
    exact ⟨(il r hr).1, ltV_i64 _ _ _, (il r hr).2.2⟩
  have C2 := hid (fun (A : Option Addr) (c : Nat) W h1 h2 => ln_Grad (Aw := Au) (A := A) (cw := cu) (c := c) u lcu lmu iu f m (by rw [hml]; exact hll) himl W h1 h2)
  have C3 := hid (fun (A : Option Addr) (c : Nat) W h1 h2 => ln_Loss (Aw := Au) (A := A) (cw := cu) (c := c) u lcu lmu iu f m (by rw [hml]; exact hll) himl W h1 h2)
  have C4 := hid (fun (s : SmpV) (hs : s ∈ l) (Ax : Option Addr) (cx : Nat) W h1 h2 => ln_Off (Aw := Au) (Ax := Ax) (cw := cu) (cx := cx) u s lcu lmu (il s hs).2.2 iu (il s hs).1 (il s hs).2.1 f W h1 h2)
  have C5 := hid (fun (s : SmpV) (hs : s ∈ l) (A : Option Addr) W h1 h2 => ln_Grad (Aw := Au) (A := A) (cw := cu) (c := 1) u lcu lmu iu f [s] (by simp) (fun r hr => by simp at hr; rw [hr]; exact il s hs) W h1 h2)
  have C6 := hid (fun (s : SmpV) (hs : s ∈ l) (Ax : Option Addr) (cx : Nat) (W : World) (h2 : Rd (Value.int .i64) W W.heap.size Ax s.X) => Scale_any (A := Ax) (c := cx) s.X (il s hs).2.2 (il s hs).1 (loV u s f) f (loV_i64 u s f) W h2)
  have HT := hid (fun (h : ∀ s ∈ l, ltE u s.X f = 0) (hne : m ≠ []) => lin_right (w := u) (f := f) (ls := m) (by rw [← hm]; exact right_of h) hne)
  have hfew : fewL u.length l = true → u.length ≤ 500 ∧ l.length ≤ 100 := fun h => by
    unfold fewL at h
    simp only [Bool.and_eq_true, decide_eq_true_eq] at h
    exact h.2
  obtain ⟨F, hF⟩ : ∃ F, fewL u.length l = F := ⟨_, rfl⟩
  obtain ⟨V, hV⟩ : ∃ V, lgV u f m = V := ⟨_, rfl⟩
  obtain ⟨E, hE⟩ : ∃ E, lgE u f m = E := ⟨_, rfl⟩
  obtain ⟨Z, hZ⟩ : ∃ Z, lsV u f m = Z := ⟨_, rfl⟩
  obtain ⟨G, hG⟩ : ∃ G, lsE u f m = G := ⟨_, rfl⟩
  rw [hF] at C0 hfew
  rw [hV, hE] at C2 HT
  rw [hZ, hG] at C3 HT
  rw [hml] at C2 C3 HT
  obtain ⟨U, hU⟩ : ∃ U, u.length = U := ⟨_, rfl⟩
  obtain ⟨M, hM⟩ : ∃ M, l.length = M := ⟨_, rfl⟩
  rw [hU] at C0 C1 C2 C3 C4 C5 HT hfew ⊢
  rw [hM] at C0 C2 C3 HT hfew hml ⊢
  have HU := hid hU
  have HML := hid hM
  have HMM := hid hml
  have HMD := hid hm
  have RU := hid ru
  have RL := hid rl
  have HIL := hid il
  clear hF hV hE hZ hG hM hml hm himl ru rl il iu lcl lml lcu hf hul hll hU
  cases F with
  | false =>
    go_enter Try.func5, Try.ntmps5
    go_wp2_with fail
    refine (ln_live _).mono ?_
    rintro _ w1 ⟨rfl, h1⟩
    have K1 := hid h1
    clear h1
    go_wp2_with fail
    refine (C0.out _ (RL.out.on K1.out)).mono ?_
    rintro _ w2 ⟨rfl, h2⟩
    have K2 : Hid (Below w.heap.size w w2) := hid (K1.out.trans (h2.mono K1.out.size))
    clear h2
    go_wp2_with fail
    go_ret
    exact ⟨rfl, K2.out⟩
  | true =>
    obtain ⟨hu5, hl1⟩ := hfew rfl
    have HL1 := hid hl1
    have HU5 := hid hu5
    clear hfew
    go_enter Try.func5, Try.ntmps5
    go_wp2_with fail
    refine (ln_live _).mono ?_
    rintro _ w1 ⟨rfl, h1⟩
    have K1 := hid h1
    clear h1
    go_wp2_with fail
    refine (C0.out _ (RL.out.on K1.out)).mono ?_
    rintro _ w2 ⟨rfl, h2⟩
    have K2 : Hid (Below w.heap.size w w2) := hid (K1.out.trans (h2.mono K1.out.size))
    clear h2 C0
    by_cases hM0 : M = 0
    · have t0 : ((M : Int) == 0) = true := by rw [hM0]; rfl
      clear hM0
      go_wp2_with fail
      go_ret
      exact ⟨rfl, K2.out⟩
    · have t0 : ((M : Int) == 0) = false := beq_eq_false_iff_ne.2 (by omega)
      have HM0 : Hid (0 < M) := hid (by omega)
      have hMb : M ≤ 9223372036854775807 := by omega
      have hza := K2.out.size
      clear hM0
      go_wp2_with fail
      clear t0 hMb
      go_loopw [8, 10, 11, 12, 40] (fun xb _ _ _ xi wv => ∃ (k : Nat) (A2 : Option Addr) (c2 : Nat), k ≤ M ∧ xi = .int .i64 (k : Int) ∧ xb = .slice A2 k c2 ∧ OwnSm wv w.heap.size w2.heap.size A2 c2 (m.take k) ∧ (∀ x ∈ l.take k, ltE u x.X f = 0) ∧ Below w2.heap.size w2 wv) (fun _ _ _ _ xi _ => M - (intOf xi).toNat)
      case atStart => exact ⟨0, none, 0, Nat.zero_le _, rfl, rfl, OwnSm.nil _ _ _, fun x hx => by simp at hx, Below.refl _ _⟩
      case round =>
        obtain ⟨k, A2, c2, hk, rfl, rfl, ho, ha, hbel⟩ := hrel
        have HO := hid ho
        have HA := hid ha
        have HB := hid hbel
        have KR : Hid (Below w.heap.size w wr) := hid (K2.out.trans (hbel.mono K2.out.size))
        clear ho ha
        by_cases hlt : k < M
        · obtain ⟨b1, o1, s, Ax, cx, rfl, l1, en, g0, g1, rx⟩ := (RL.out.below KR.out).at_ (k := k) (by rw [HML.out]; exact hlt)
          have hz1 := KR.out.size
          have HEN := hid en
          obtain ⟨w5, hw5⟩ : ∃ w5, wr.alloc (.cells #[.slice Ax s.X.length cx, .int .i64 s.Y] 24) = w5 := ⟨_, rfl⟩
          have kb5 : Below wr.heap.size wr w5 := by rw [← hw5]; exact ln_grow _ _
          have z5 : wr.heap.size < w5.heap.size := by rw [← hw5]; simp
          have m0 : w5.cell? ⟨wr.heap.size, 0, none⟩ = some (.slice Ax s.X.length cx) := by rw [← hw5]; simp [go_sem]
          have KK5 := hid (KR.out.trans (kb5.mono KR.out.size))
          have HB5 : Hid (Below w2.heap.size w2 w5) := hid (HB.out.trans (kb5.mono HB.out.size))
          have HO5 := hid (HO.out.on hz1 kb5)
          have HRX5 := hid (rx.below (kb5.mono hz1))
          have CT := hid (C1.out s (List.mem_of_getElem? en) Ax cx w5 (RU.out.on KK5.out) (HRX5.out.more KK5.out.size))
          have hmk : Hid (m.take (k + 1) = m.take k ++ [⟨s.X, ltV u s.X f⟩]) := hid (by
            rw [List.take_add_one, ← HMD.out, List.getElem?_map, en]
            rfl)
          obtain ⟨X, hXl⟩ : ∃ X, s.X.length = X := ⟨_, rfl⟩
          obtain ⟨Y, hYl⟩ : ∃ Y, s.Y = Y := ⟨_, rfl⟩
          obtain ⟨T, hT⟩ : ∃ T, ltV u s.X f = T := ⟨_, rfl⟩
          obtain ⟨e, he⟩ : ∃ e, ltE u s.X f = e := ⟨_, rfl⟩
          rw [hXl] at g0 m0 hw5 CT
          rw [hYl] at g1 hw5
          rw [hT] at hmk CT
          rw [he] at CT
          have HXX := hid hXl
          have HEE := hid he
          clear en rx hXl hYl hT he kb5 hbel
          by_cases he0 : e = 0
          · subst he0
            go_wp2_with fail
            refine CT.out.mono ?_
            rintro _ w6 ⟨rfl, h6⟩
            have m0' := (h6.cell (p := ⟨wr.heap.size, 0, none⟩) z5).trans m0
            have HO6 := hid (HO5.out.on KK5.out.size h6)
            have KK6 : Hid (Below w.heap.size w w6) := hid (KK5.out.trans (h6.mono KK5.out.size))
            have HB6 : Hid (Below w2.heap.size w2 w6) := hid (HB5.out.trans (h6.mono HB5.out.size))
            have HRX6 := hid (HRX5.out.below (h6.mono KK5.out.size))
            obtain ⟨w7, hw7⟩ : ∃ w7, w6.alloc (.cells #[.slice Ax X cx, .int .i64 T] 24) = w7 := ⟨_, rfl⟩
            have kb7 : Below w6.heap.size w6 w7 := by rw [← hw7]; exact ln_grow _ _
            have n0 : w7.cell? ⟨w6.heap.size, 0, none⟩ = some (.slice Ax s.X.length cx) := by rw [← hw7, HXX.out]; simp [go_sem]
            have n1 : w7.cell? ⟨w6.heap.size, 1, none⟩ = some (.int .i64 T) := by rw [← hw7]; simp [go_sem]
            have HO7 := HO6.out.on KK6.out.size kb7
            have RX7 := HRX6.out.below (kb7.mono KK6.out.size)
            have hLk : (m.take k).length = k := by rw [List.length_take, HMM.out]; omega
            obtain ⟨L, hL⟩ : ∃ L, m.take k = L := ⟨_, rfl⟩
            have HNX2 : Hid (m.take (k + 1) = L ++ [⟨s.X, T⟩]) := hid (by rw [hmk.out, hL])
            rw [hL] at hLk HO7
            have HLK := hid hLk
            have HB7 : Hid (Below w2.heap.size w2 w7) := hid (HB6.out.trans (kb7.mono HB6.out.size))
            have hz7 := HB7.out.size
            have HKM := hid hlt
            clear h6 kb7 hLk hL hmk hw5 m0 g0 g1 z5
            go_wp2_with (at_builtin; refine wpList_appS _ rfl _ _ rfl (ls := L) (by rw [HLK.out]; rfl) HO7 hza w6.heap.size 1 rfl ⟨s.X, T⟩ n0 n1 RX7 (by rw [HLK.out]; have := HL1.out; omega) hz7 ?_)
            rintro A8 c8 w8 ho8 hb8 _
            rw [HLK.out]
            rw [← HNX2.out] at ho8
            have HO8 := hid ho8
            have HB8 : Hid (Below w2.heap.size w2 w8) := hid (HB7.out.trans hb8)
            clear ho8 hb8 n0 n1 hw7 HO7 RX7 hz7 hz1 m0'
            go_wp2_with fail
            go_roundw
            case rel => exact ⟨k + 1, A8, c8, HKM.out, by go_num, rfl, HO8.out, right_all HA.out HEN.out HEE.out, HB8.out⟩
            case measure => have := HKM.out; simp [intOf]; omega
          · have hne : (e != 0) = true := by simpa using he0
            clear he0
            go_wp2_with fail
            refine CT.out.mono ?_
            rintro _ w6 ⟨rfl, h6⟩
            have KK6 : Hid (Below w.heap.size w w6) := hid (KK5.out.trans (h6.mono KK5.out.size))
            clear h6 m0 hw5
            go_wp2_with fail
            go_ret
            exact ⟨rfl, KK6.out⟩
        · obtain rfl : k = M := by omega
          have HSA : ∀ x ∈ l, ltE u x.X f = 0 := by have := HA.out; rwa [List.take_of_length_le (by rw [HML.out]; exact Nat.le_refl _)] at this
          have ho := HO.out
          rw [List.take_of_length_le (by rw [HMM.out]; exact Nat.le_refl _)] at ho
          have RB := hid (ho.rd KR.out.size)
          obtain ⟨t1, t2⟩ := HT.out HSA (fun e => by have := HMM.out; have := HM0.out; rw [e] at *; simp at *; omega)
          have D2 := hid (C2.out A2 c2 wr (RU.out.on KR.out) RB.out)
          have D3 := hid (fun W (h : Below wr.heap.size wr W) => C3.out A2 c2 W ((RU.out.on KR.out).on h) (RB.out.on h))
          obtain ⟨b1, o1, s, Ax, cx, rfl, l1, en, g0, g1, rx⟩ := (RL.out.below KR.out).at_ (k := 0) (by rw [HML.out]; exact HM0.out)
          have hsm := List.mem_of_getElem? en
          have hux := right_len (HSA s hsm)
          rw [HU.out] at hux
          rw [Nat.zero_mul, Nat.add_zero] at g0 g1
          have D4 := hid (fun W (h : Below wr.heap.size wr W) => C4.out s hsm Ax cx W ((RU.out.on KR.out).on h) ((rx.more KR.out.size).on h))
          have D5 := hid (fun W A (h : Below wr.heap.size wr W) h2 => C5.out s hsm A W ((RU.out.on KR.out).on h) h2)
          have D6 := hid (fun W (h : Below wr.heap.size wr W) => C6.out s hsm Ax cx W ((rx.more KR.out.size).on h))
          have RX := hid (rx.more KR.out.size)
          have hsg := hid (fun h => lin_single (w := u) (f := f) (s := s) h)
          obtain ⟨X, hXl⟩ : ∃ X, s.X.length = X := ⟨_, rfl⟩
          obtain ⟨Y, hYl⟩ : ∃ Y, s.Y = Y := ⟨_, rfl⟩
          obtain ⟨O, hO⟩ : ∃ O, loV u s f = O := ⟨_, rfl⟩
          obtain ⟨J, hJ⟩ : ∃ J, loE u s f = J := ⟨_, rfl⟩
          obtain ⟨P, hP⟩ : ∃ P, lgV u f [s] = P := ⟨_, rfl⟩
          obtain ⟨I, hI⟩ : ∃ I, lgE u f [s] = I := ⟨_, rfl⟩
          rw [hXl] at g0 hux D4 D6 hsg
          rw [hYl] at g1 D4
          rw [hO] at D4 D6 hsg
          rw [hJ] at D4 hsg
          rw [hP, hI] at D5 hsg
          obtain ⟨vs, hvs⟩ : ∃ vs, unV (behE f) (numS s.X O f) X = vs := ⟨_, rfl⟩
          obtain ⟨es, hes⟩ : ∃ es, unE (behE f) (numS s.X O f) X = es := ⟨_, rfl⟩
          have hvl : vs.length ≤ 4096 := by rw [← hvs]; exact unV_len _ _ _
          rw [hvs, hes] at D6 hsg
          have hsl : ([s] : List SmpV).length = 1 := rfl
          rw [hsl] at D5
          have RXX : Hid (∀ W, Below wr.heap.size wr W → RdSm (W.alloc (.cells #[.slice Ax X cx, .int .i64 Y] 24)) (W.alloc (.cells #[.slice Ax X cx, .int .i64 Y] 24)).heap.size (some ⟨W.heap.size, 0, none⟩) [s]) := hid (fun W h => by
            have r := smp_one (cx := cx) (Y := Y) 24 (RX.out.on h)
            rw [hXl] at r
            have e : s = ⟨s.X, Y⟩ := by rw [← hYl]
            rw [← e] at r
            exact r)
          subst hux
          have hl1' : b1 < wr.heap.size := Nat.lt_of_lt_of_le l1 KR.out.size
          have hw : IntKind.i64.wrap ((X : Int) + 1) = ((X + 1 : Nat) : Int) := Go.IntWalk.i64_in _ (by have := HU5.out; omega)
          have HVL := hid hvl
          clear ho HO HA hbel hlt hk C1 C2 C3 C4 C5 C6 HT HSA hsm en rx hXl hYl hO hJ hP hI hvs hes hsl hvl RX l1
          by_cases h64 : k > 64
          · obtain ⟨hE, hG⟩ := t1 h64
            have hMi : (k : Int) > 64 := by omega
            have hne1 : (E != 0) = true := by simpa using hE
            have hne2 : (G != 0) = true := by simpa using hG
            clear hE hG h64 t1 t2
            go_wp2_with fail
            refine D2.out.mono ?_
            rintro _ w4 ⟨A4, c4, rfl, ho4, h4⟩
            have J4 := hid h4
            clear h4 ho4
            go_wp2_with fail
            refine (D3.out _ J4.out).mono ?_
            rintro _ w5 ⟨rfl, h5⟩
            have K5 : Hid (Below w.heap.size w w5) := hid (KR.out.trans ((J4.out.trans (h5.mono J4.out.size)).mono KR.out.size))
            clear h5
            go_wp2_with fail
            go_ret
            exact ⟨rfl, K5.out⟩
          · obtain ⟨rfl, hVl, hV0, rfl, rfl⟩ := t2 (by omega)
            have hMi : ¬ (k : Int) > 64 := by omega
            have HV0 := hid hV0
            have HVl := hid hVl
            have hXb : X + 1 ≤ 9223372036854775807 := by have := HU5.out; omega
            clear h64 t1 hV0 hVl t2
            go_wp2_with fail
            refine D2.out.mono ?_
            rintro _ w4 ⟨A4, c4, rfl, ho4, h4⟩
            have J4 := hid h4
            have HO4 := hid ho4
            rw [HVl.out]
            clear h4 ho4
            go_wp2_with fail
            refine (D3.out _ J4.out).mono ?_
            rintro _ w5 ⟨rfl, h5⟩
            have J5 : Hid (Below wr.heap.size wr w5) := hid (J4.out.trans (h5.mono J4.out.size))
            have R5 := hid (own_rd (own_on HO4.out h5))
            have q0 := (J5.out.cell (p := ⟨b1, o1, none⟩) hl1').trans g0
            have q1 := (J5.out.cell (p := ⟨b1, o1 + 1, none⟩) hl1').trans g1
            clear h5 HO4 J4
            go_wp2_with fail
            clear hMi
            generalize wr = wo at *
            go_loopw [18, 129] (fun _ xi wv => ∃ i : Nat, i ≤ X + 1 ∧ xi = .int .i64 (i : Int) ∧ wv = w5) (fun _ xi _ => X + 1 - (intOf xi).toNat)
            case atStart => exact ⟨0, Nat.zero_le _, rfl, rfl⟩
            case round =>
              obtain ⟨i, hi, rfl, rfl⟩ := hrel
              by_cases hlt : i < X + 1
              · obtain ⟨b5, o5, x, rfl, l5, ex, d5⟩ := R5.out.at_ (k := i) (by rw [HVl.out]; exact hlt)
                obtain rfl : x = 0 := HV0.out x (List.mem_of_getElem? ex)
                clear ex
                go_wp2_with fail
                go_roundw
                case rel => exact ⟨i + 1, hlt, by go_num, by trivial⟩
                case measure => simp [intOf]; omega
              · obtain rfl : i = X + 1 := by omega
                clear hlt hi R5
                go_wp2_with fail
                refine (D4.out _ J5.out).mono ?_
                rintro _ w6 ⟨rfl, h6⟩
                have J6 : Hid (Below wo.heap.size wo w6) := hid (J5.out.trans (h6.mono J5.out.size))
                have p0 := (J6.out.cell (p := ⟨b1, o1, none⟩) hl1').trans g0
                have p1 := (J6.out.cell (p := ⟨b1, o1 + 1, none⟩) hl1').trans g1
                obtain ⟨w7, hw7⟩ : ∃ w7, w6.alloc (.cells #[.slice Ax X cx, .int .i64 Y] 24) = w7 := ⟨_, rfl⟩
                have J7 : Hid (Below wo.heap.size wo w7) := hid (by rw [← hw7]; exact J6.out.alloc J6.out.size _)
                have rs := RXX.out w6 J6.out
                rw [hw7] at rs
                have E5 := hid (D5.out w7 _ J7.out rs)
                clear h6 rs q0 q1 D4
                go_wp2_with fail
                refine E5.out.mono ?_
                rintro _ w8 ⟨A8, c8, rfl, ho8, h8⟩
                have J8 : Hid (Below wo.heap.size wo w8) := hid (J7.out.trans (h8.mono J7.out.size))
                have r0 := (J8.out.cell (p := ⟨b1, o1, none⟩) hl1').trans g0
                have r1 := (J8.out.cell (p := ⟨b1, o1 + 1, none⟩) hl1').trans g1
                have R8 := hid (own_rd ho8)
                have HC8 := hid (own_cap ho8)
                clear h8 ho8 hw7 p0 p1 E5
                go_wp2_with fail
                refine (D6.out _ J8.out).mono ?_
                rintro _ w9 ⟨A9, c9, rfl, ho9, h9⟩
                have J9 : Hid (Below wo.heap.size wo w9) := hid (J8.out.trans (h9.mono J8.out.size))
                have K9 : Hid (Below w.heap.size w w9) := hid (KR.out.trans (J9.out.mono KR.out.size))
                have R9 := hid (R8.out.on h9)
                have HO9 := hid ho9
                clear r0 r1
                by_cases hJ : J = 0
                · subst hJ
                  obtain ⟨i1, i2⟩ := hsg.out (by trivial)
                  subst i1
                  by_cases hI : I = 0
                  · subst hI
                    have i3 := i2 (by trivial)
                    have HP := hid i3
                    have hz9 := h9.size
                    have h89 := h9
                    have r10 : Rd (Value.int .i64) (w9.alloc (.cells #[.int .i64 O] 2)) _ (some ⟨w9.heap.size, 0, none⟩) [O] := rd_one (one_cell w9 (.int .i64 O) 2).1
                    have ho10 := own_on ho9 ((Below.refl w9.heap.size w9).alloc (Nat.le_refl _) (.cells #[.int .i64 O] 2))
                    clear i2 i3 h9 ho9 HO9
                    go_wp2_with (at_builtin; refine wpList_app_if (Value.int .i64) (fun _ => rfl) _ rfl _ _ 22 rfl w8.heap.size 2 (.int .i64 0) 8 Try.underlying22 info_i64 rfl vs A9 c9 rfl ho10 [O] _ 1 _ rfl r10 (by have := HVL.out; simp [maxLen]; omega) (by have := HVL.out; simp; omega) (by simp; omega) ?_)
                    rintro S A10 c10 w10 hS ho11 hb10 _
                    replace hS : S = P := by rw [hS, HP.out]
                    subst hS
                    have k9 : Below w8.heap.size w9 w10 := ((Below.refl w8.heap.size w9).alloc hz9 _).trans hb10
                    have KS : Hid (Below w.heap.size w w10) := hid (K9.out.trans (k9.mono (Nat.le_trans KR.out.size J8.out.size)))
                    have R10 : Hid (Rd (Value.int .i64) w10 w10.heap.size A8 S) := hid ((R8.out.below (h89.trans k9)).more (Nat.le_trans hz9 (by have := k9.size; exact this)))
                    have CS := hid (ln_rsame (A := A8) (B := A10) (c := c8) (d := c10) S (by have := HC8.out; omega) w10 R10.out (own_rd ho11))
                    clear ho10 ho11 hb10 r10 k9 h89
                    go_wp2_with fail
                    refine CS.out.mono ?_
                    rintro _ v1 ⟨rfl, hv1⟩
                    have K : Hid (Below w.heap.size w v1) := hid (KS.out.trans (hv1.mono KS.out.size))
                    clear hv1
                    go_wp2_with fail
                    go_ret
                    exact ⟨rfl, K.out⟩
                  · have hne : (I != 0) = true := by simpa using hI
                    clear hI i2 h9 ho9
                    go_wp2_with fail
                    go_ret
                    exact ⟨rfl, K9.out⟩
                · have hne : (J != 0) = true := by simpa using hJ
                  clear hJ h9 ho9
                  go_wp2_with fail
                  go_ret
                  exact ⟨rfl, K9.out⟩
theorem law_types : ∀ t ∈ Try.f5.params.toList, Try.prog.readableRec t = true ∧ t < Try.prog.types.size := by
  have h : (Try.f5.params.toList.all fun t => Try.prog.readableRec t && decide (t < Try.prog.types.size)) = true := by kernel_rfl
  intro t ht
  simpa using List.all_eq_true.1 h t ht
set_option maxRecDepth 100000 in
theorem lifted (os : Os) (started : os.Started) (H : Type) (enc : TypeId × Value → H) :
    ReturnsInHanded {} Try.checked os 5 .any (Rows.linearRightSpec.pre6 enc Try.prog Try.f5 Rows.linearRightRow.domain false) (Rows.linearRightSpec.post enc Try.prog Try.f5 false true false false) := by
  refine returnsInHanded_of_change (C := Try.checked) own started (by kernel_rfl) Try.func5
    (ChangeSpec.witness6 (enc := enc) (C := Try.checked) false ⟨#[], #[.slice none 0 0, .int .i64 0, .slice none 0 0], []⟩ 8 (by kernel_rfl) (by kernel_rfl) (by kernel_rfl) (by kernel_rfl)) ?_
  intro W base args ds gs before hval0 hW hcnd _
  have hval : ∀ (j : Nat) t v, Try.f5.params[j]? = some t → args[j]? = some v → Value.okWide Try.prog W .any base t v := hval0
  have hW' := hW
  obtain ⟨p, q, hA0, hV, rfl, hfz, hnd⟩ := hW
  have hA : DataW.TrodAll enc Try.prog W 0 (fun _ => true) true Try.f5.params.toList args.toList ds p := hA0
  rw [Try.params5] at hA hval
  obtain ⟨v0, vs0, d0, ds0, p0, q0, hargs, rfl, rfl, h0, r0⟩ := trodAll_cons hA
  obtain ⟨v1, vs1, d1, ds1, p1, q1, rfl, rfl, rfl, h1, r1⟩ := trodAll_cons r0
  obtain ⟨v2, vs2, d2, ds2, p2, q2, rfl, rfl, rfl, h2, r2⟩ := trodAll_cons r1
  obtain ⟨rfl, rfl, rfl⟩ := trodAll_nil r2
  obtain rfl : args = #[v0, v1, v2] := by cases args; simp_all
  obtain ⟨rfl, rfl⟩ := trodVars_none hV
  obtain ⟨Au, u, cu, rfl, rdu, iu, lcu, lmu⟩ := open_nums Try.underlying22 Try.underlying2 cells_i64' (hval 0 22 v0 rfl rfl) h0
  obtain ⟨f, rfl, rfl, rfl, w1⟩ := open_int Try.underlying3 (hval 1 3 v1 rfl rfl) h1
  obtain ⟨Al, l, cl, rfl, rdl, il, lcl, lml⟩ := open_smps (hval 2 39 v2 rfl rfl) h2
  clear hA0 hval0
  refine (walk Au u cu f Al l cl W rdu (fun x hx => I64.of_wf (iu x hx)) lcu lmu (I64.of_wf w1) rdl il lcl lml).mono fun e W' ⟨he, hb⟩ => ?_
  subst he
  exact ⟨_, rfl, law_post laid (fun t ht => law_types t ht) rfl hW' ⟨rfl, rfl, rfl⟩ (by kernel_rfl) Try.underlying4 hb⟩

theorem over : Rows.linearRightRow.holds Try.pinned (OpenSpec.ofChange Rows.linearRightSpec) :=
  OpenClaim.holds_of_wide 5 Try.f5 rfl rfl rfl rfl rfl rfl rfl ⟨rfl, rfl, rfl, rfl, rfl⟩ rfl rfl rfl rfl rfl (by kernel_rfl) Try.func5 (by kernel_rfl)
    (of_decide_eq_true (by kernel_rfl)) (by unfold Func.isWrapper; first | (rw [if_pos (by decide +kernel)]; kernel_rfl) | (rw [if_neg (by decide +kernel)]; exact ⟨rfl, rfl⟩))
    (fun os started H enc _ => lifted os started H enc)

theorem proved : Rows.LinearRightSaid := over
end Go.Proofs.Ytcjkofcgphcjnaa.LinearRight
