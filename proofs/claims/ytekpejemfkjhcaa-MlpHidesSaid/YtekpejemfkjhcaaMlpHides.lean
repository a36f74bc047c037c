
/-
  MlpHides answers true for every input. No condition.
-/
import Derived.Test.YtekpejemfkjhcaaUf
import Derived.Test.YtekpejemfkjhcaaUc
import Derived.Test.YtekpejemfkjhcaaUb
import Derived.Test.YtekpejemfkjhcaaUa
namespace Go.Proofs.Ytekpejemfkjhcaa.MlpHides
open Go.ChangeShapes Go.WideShapes Go.ChangeAt Go.RowKit
set_option maxHeartbeats 400000
set_option linter.unusedVariables false
open Go.Proofs.Ytekpejemfkjhcaa
set_option maxHeartbeats 4000000 in
set_option maxRecDepth 100000 in
theorem walk (o : Int) (Au : Option Addr) (u : List Int) (cu : Nat) (Ax : Option Addr) (x : List Int) (cx : Nat) (f : Int) (w : World) (ho : I64 o)
    (ru : Rd (Value.int .i64) w w.heap.size Au u) (iu : I64s u) (lcu : u.length ≤ cu) (lmu : cu ≤ 9223372036854775807)
    (rx : Rd (Value.int .i64) w w.heap.size Ax x) (ix : I64s x) (lcx : x.length ≤ cx) (lmx : cx ≤ 9223372036854775807) (hf : I64 f) :
    Calls Try.prog 6 #[.int .i64 o, .slice Au u.length cu, .slice Ax x.length cx, .int .i64 f] w fun e w' => e = .returned (.bool true) ∧ Below w.heap.size w w' := by
  have hul : u.length ≤ 9223372036854775807 := by omega
  have hxl : x.length ≤ 9223372036854775807 := by omega
  have C0 := hid (fun W A (h : RdSm W W.heap.size A [⟨x, 0⟩]) => ref_Few14 (Aw := Au) (A := A) (cw := cu) (c := 1) u.length hul [⟨x, 0⟩] (by simp) W h)
  have C1 := hid (fun (hx : x.length ≤ 1099511627776) W h1 h2 => ml_Hidden (Au := Au) (Ax := Ax) (cu := cu) (cx := cx) o ho u x lcu lmu iu hx ix f W h1 h2)
  have C2 := hid (fun W h => ml_Split (Au := Au) (cu := cu) o ho u lcu lmu W h)
  have C3 := hid (fun (hx : x.length ≤ 1099511627776) W h1 h2 => ml_Tell (Au := Au) (Ax := Ax) (cu := cu) (cx := cx) o ho u x lcu lmu iu hx ix f W h1 h2)
  have C4 := hid (fun (r : List Int) (ir : I64s r) (Ar : Option Addr) (cr : Nat) (W : World) (h1 : r.length ≤ cr) (h2 : cr ≤ 9223372036854775807) (h3 : Rd (Value.int .i64) W W.heap.size Ar r) (h4 : Rd (Value.int .i64) W W.heap.size Ax x) => ln_Tell (Aw := Ar) (Ax := Ax) (cw := cr) (cx := cx) r x h1 h2 hxl ir ix f W h3 h4)
  have hfew : fewL u.length [⟨x, 0⟩] = true → u.length ≤ 500 ∧ x.length ≤ 100 := fun h => by
    unfold fewL at h
    simp only [Bool.and_eq_true, decide_eq_true_eq, List.all_cons, List.all_nil] at h
    exact ⟨h.2.1, h.1.1⟩
  obtain ⟨F, hF⟩ : ∃ F, fewL u.length [⟨x, 0⟩] = F := ⟨_, rfl⟩
  rw [hF] at C0 hfew
  have hsl : ([⟨x, 0⟩] : List SmpV).length = 1 := rfl
  rw [hsl] at C0
  have RU := hid ru
  have RX := hid rx
  have HSM : Hid (∀ W, Below w.heap.size w W → RdSm (W.alloc (.cells #[.slice Ax x.length cx, .int .i64 0] 24)) (W.alloc (.cells #[.slice Ax x.length cx, .int .i64 0] 24)).heap.size (some ⟨W.heap.size, 0, none⟩) [⟨x, 0⟩]) := hid (fun W h => smp_one (cx := cx) (Y := 0) 24 (rx.on h))
  obtain ⟨N, hN⟩ : ∃ N, x.length = N := ⟨_, rfl⟩
  obtain ⟨U, hU⟩ : ∃ U, u.length = U := ⟨_, rfl⟩
  have HN := hid hN
  rw [hU] at C0 C1 C2 C3 hfew ⊢
  rw [hN] at C1 C3 C4 HSM hfew ⊢
  cases F with
  | false =>
    clear hfew hF hsl ru rx iu ix lcu lmu lcx lmx ho hf hul hxl hN hU
    go_enter Try.func6, Try.ntmps6
    go_wp2_with fail
    refine (ml_live _).mono ?_
    rintro _ w1 ⟨rfl, h1⟩
    have K1 := hid h1
    obtain ⟨w2, hw2⟩ : ∃ w2, w1.alloc (.cells #[.slice Ax N cx, .int .i64 0] 24) = w2 := ⟨_, rfl⟩
    have K2 : Hid (Below w.heap.size w w2) := hid (by rw [← hw2]; exact h1.alloc h1.size _)
    have rs := HSM.out w1 h1
    rw [hw2] at rs
    have D0 := hid (C0.out w2 _ rs)
    clear h1 rs
    go_wp2_with fail
    refine D0.out.mono ?_
    rintro _ w3 ⟨rfl, h3⟩
    have K3 : Hid (Below w.heap.size w w3) := hid (K2.out.trans (h3.mono K2.out.size))
    clear h3 hw2
    go_wp2_with fail
    go_ret
    exact ⟨rfl, K3.out⟩
  | true =>
    obtain ⟨hu5, hx1⟩ := hfew rfl
    have D1 := hid (C1.out (by omega))
    have D3 := hid (C3.out (by omega))
    by_cases hE : mhE o u x f = 0
    · obtain ⟨m1, m2, m3, m4, m5, m6, m7⟩ := mlp_hides hE
      have eV : mhV o u x f = mhL o u x f := if_pos hE
      have eR : mlO o u = mlL o u := if_pos m1
      have eZ : mzO o u = mlZ o u := if_pos m1
      have iV : I64s (mhL o u x f) := fun y hy => (mhL_i64 o u x f y hy).1
      have iZ : I64s (mlZ o u) := mlZ_i64 iu
      have iR : ∀ r ∈ mlL o u, I64s r := mlL_i64 iu
      obtain ⟨⟨o1, o8⟩, _⟩ := msE_ok.1 m1
      rw [hE, eV] at D1
      rw [eR, eZ, m1] at C2
      rw [m6, m7] at D3
      obtain ⟨V, hV⟩ : ∃ V, mhL o u x f = V := ⟨_, rfl⟩
      obtain ⟨R, hR⟩ : ∃ R, mlL o u = R := ⟨_, rfl⟩
      obtain ⟨Z, hZ⟩ : ∃ Z, mlZ o u = Z := ⟨_, rfl⟩
      rw [hV] at D1 m2 m5 iV D3
      rw [hR] at C2 m3 m5 iR
      rw [hZ] at C2 m4 iZ D3
      obtain ⟨H, rfl⟩ : ∃ H : Nat, o = (H : Int) := ⟨o.toNat, by omega⟩
      have l2 : V.length = H := by omega
      have l3 : R.length = H := by omega
      have l4 : Z.length = H + 1 := by omega
      have C5 := hid (fun (Az Ah : Option Addr) (cz ch : Nat) (W : World) (h1 : Z.length ≤ cz) (h2 : cz ≤ 9223372036854775807) (h3 : Rd (Value.int .i64) W W.heap.size Az Z) (h4 : Rd (Value.int .i64) W W.heap.size Ah V) => ln_Tell (Aw := Az) (Ax := Ah) (cw := cz) (cx := ch) Z V h1 h2 (by omega) iZ iV f W h3 h4)
      obtain ⟨q, hq⟩ : ∃ q, ltV Z V f = q := ⟨_, rfl⟩
      obtain ⟨e, he⟩ : ∃ e, ltE Z V f = e := ⟨_, rfl⟩
      rw [hq, he] at C5 D3
      rw [l2, l4] at C5
      have L2 := hid l2
      have L3 := hid l3
      have L4 := hid l4
      have M5 := hid m5
      have IR := hid iR
      have hH8 : H ≤ 8 := by omega
      have H8 := hid hH8
      have hw1 : IntKind.i64.wrap ((H : Int) + 1) = ((H + 1 : Nat) : Int) := Go.IntWalk.i64_in _ (by omega)
      have t1 : ((H : Int) != (H : Int)) = false := by simp
      have t2 : (((H + 1 : Nat) : Int) != ((H + 1 : Nat) : Int)) = false := by simp
      have t3 : (q == q) = true := by simp
      have t4 : (e == e) = true := by simp
      clear hfew hF hsl ru rx iu ix lcu lmu lcx lmx ho hf hul hxl hN hU hu5 hx1 hE eV eR eZ iV iZ iR m1 m2 m3 m4 m5 m6 m7 o1 o8 hV hR hZ l2 l3 l4 hq he C1 C3 hH8
      go_enter Try.func6, Try.ntmps6
      go_wp2_with fail
      refine (ml_live _).mono ?_
      rintro _ w1 ⟨rfl, h1⟩
      have K1 := hid h1
      obtain ⟨w2, hw2⟩ : ∃ w2, w1.alloc (.cells #[.slice Ax N cx, .int .i64 0] 24) = w2 := ⟨_, rfl⟩
      have K2 : Hid (Below w.heap.size w w2) := hid (by rw [← hw2]; exact h1.alloc h1.size _)
      have rs := HSM.out w1 h1
      rw [hw2] at rs
      have D0 := hid (C0.out w2 _ rs)
      clear h1 rs
      go_wp2_with fail
      refine D0.out.mono ?_
      rintro _ w3 ⟨rfl, h3⟩
      have K3 : Hid (Below w.heap.size w w3) := hid (K2.out.trans (h3.mono K2.out.size))
      clear h3 hw2 D0 C0
      go_wp2_with fail
      refine (D1.out _ (RU.out.on K3.out) (RX.out.on K3.out)).mono ?_
      rintro _ w4 ⟨A4, c4, rfl, ho4, h4⟩
      rw [L2.out]
      have K4 : Hid (Below w.heap.size w w4) := hid (K3.out.trans (h4.mono K3.out.size))
      have R4 := hid (own_rd ho4)
      clear h4 ho4 D1
      go_wp2_with fail
      refine (C2.out _ (RU.out.on K4.out)).mono ?_
      rintro _ w5 ⟨A5, c5, B5, d5, rfl, hor, hzc, hzr, h5⟩
      rw [L3.out, L4.out]
      have K5 : Hid (Below w.heap.size w w5) := hid (K4.out.trans (h5.mono K4.out.size))
      have R45 := hid (R4.out.on h5)
      have HOR := hid hor
      have HZR := hid hzr.rd
      rw [L4.out] at hzc
      have HZC := hid hzc
      clear h5 hor hzc hzr R4 C2
      go_wp2_with fail
      clear t1 t2 hw1
      go_loopw [15, 16, 17, 18, 79] (fun _ _ _ _ xi wr => ∃ k : Nat, k ≤ H ∧ xi = .int .i64 (k : Int) ∧ Below w5.heap.size w5 wr) (fun _ _ _ _ xi _ => H - (intOf xi).toNat)
      case atStart => exact ⟨0, Nat.zero_le _, rfl, Below.refl _ _⟩
      case round =>
        obtain ⟨k, hk, rfl, hbel⟩ := hrel
        have HB := hid hbel
        have KR : Hid (Below w.heap.size w wr) := hid (K5.out.trans (hbel.mono K5.out.size))
        by_cases hlt : k < H
        · obtain ⟨b1, o1, r, Ar, cr, rfl, hb1, er, hcr, hr1, hr2, rr⟩ := (HOR.out.on hbel).at_ (k := k) (by rw [L3.out]; exact hlt)
          obtain ⟨n1, n2, n3, n4⟩ := M5.out k r er
          have CT := hid (C4.out r (IR.out r (List.mem_of_getElem? er)) Ar cr wr hr1 hr2 rr (RX.out.on KR.out))
          obtain ⟨b4, o4, z, rfl, hb4, ez, cz⟩ := (R45.out.on hbel).at_ (k := k) (by rw [L2.out]; exact hlt)
          have hz : V.getD k 0 = z := by rw [List.getD_eq_getElem?_getD, ez]; rfl
          rw [hz] at n2 n3 n4
          obtain ⟨y, hy⟩ : ∃ y, ltV r x f = y := ⟨_, rfl⟩
          rw [hy] at CT n3 n4
          rw [n1] at CT
          obtain ⟨m, hm⟩ : ∃ m, r.length = m := ⟨_, rfl⟩
          rw [hm] at CT hcr
          have HKH := hid hlt
          have HB4 := hid hb4
          clear hr1 hr2 rr er ez hz hy n1 hm hbel
          by_cases hp : y > 0
          · obtain rfl : z = y := n3 hp
            have p1 : ¬ z < 0 := by omega
            have p2 : ¬ z ≤ 0 := by omega
            have p3 : (z != z) = false := by simp
            clear n2 n3 n4
            go_wp2_with fail
            refine CT.out.mono ?_
            rintro _ w6 ⟨rfl, h6⟩
            have cz6 := (h6.cell (p := ⟨b4, o4 + k, none⟩) HB4.out).trans cz
            have HB6 : Hid (Below w5.heap.size w5 w6) := hid (HB.out.trans (h6.mono HB.out.size))
            have hHb := H8.out
            clear h6 cz
            go_wp2_with fail
            go_roundw
            case rel => exact ⟨k + 1, HKH.out, by go_num, HB6.out⟩
            case measure => have := HKH.out; simp [intOf]; omega
          · obtain rfl : z = 0 := n4 (by omega)
            have p2 : y ≤ 0 := by omega
            clear n2 n3 n4
            go_wp2_with fail
            refine CT.out.mono ?_
            rintro _ w6 ⟨rfl, h6⟩
            have cz6 := (h6.cell (p := ⟨b4, o4 + k, none⟩) HB4.out).trans cz
            have HB6 : Hid (Below w5.heap.size w5 w6) := hid (HB.out.trans (h6.mono HB.out.size))
            have hHb := H8.out
            clear h6 cz
            go_wp2_with fail
            go_roundw
            case rel => exact ⟨k + 1, HKH.out, by go_num, HB6.out⟩
            case measure => have := HKH.out; simp [intOf]; omega
        · obtain rfl : k = H := by omega
          clear hbel
          go_wp2_with fail
          refine (D3.out _ (RU.out.on KR.out) (RX.out.on KR.out)).mono ?_
          rintro _ w6 ⟨rfl, h6⟩
          have HB6 : Hid (Below w5.heap.size w5 w6) := hid (HB.out.trans (h6.mono HB.out.size))
          clear h6
          go_wp2_with fail
          refine (C5.out _ _ _ _ _ HZC.out.1 HZC.out.2 (HZR.out.on HB6.out) (R45.out.on HB6.out)).mono ?_
          rintro _ w7 ⟨rfl, h7⟩
          have K7 : Hid (Below w.heap.size w w7) := hid (K5.out.trans ((HB6.out.trans (h7.mono HB6.out.size)).mono K5.out.size))
          clear h7
          go_wp2_with fail
          go_ret
          exact ⟨rfl, K7.out⟩
    · have eV : mhV o u x f = [] := if_neg hE
      obtain ⟨E, hEE⟩ : ∃ E, mhE o u x f = E := ⟨_, rfl⟩
      rw [eV, hEE] at D1
      rw [hEE] at hE
      have hne : (E != 0) = true := by simpa using hE
      clear hfew hF hsl ru rx iu ix lcu lmu lcx lmx ho hf hul hxl hN hU hu5 hx1 hE eV hEE C1 C2 C3 C4 D3
      go_enter Try.func6, Try.ntmps6
      go_wp2_with fail
      refine (ml_live _).mono ?_
      rintro _ w1 ⟨rfl, h1⟩
      have K1 := hid h1
      obtain ⟨w2, hw2⟩ : ∃ w2, w1.alloc (.cells #[.slice Ax N cx, .int .i64 0] 24) = w2 := ⟨_, rfl⟩
      have K2 : Hid (Below w.heap.size w w2) := hid (by rw [← hw2]; exact h1.alloc h1.size _)
      have rs := HSM.out w1 h1
      rw [hw2] at rs
      have D0 := hid (C0.out w2 _ rs)
      clear h1 rs
      go_wp2_with fail
      refine D0.out.mono ?_
      rintro _ w3 ⟨rfl, h3⟩
      have K3 : Hid (Below w.heap.size w w3) := hid (K2.out.trans (h3.mono K2.out.size))
      clear h3 hw2 D0 C0
      go_wp2_with fail
      refine (D1.out _ (RU.out.on K3.out) (RX.out.on K3.out)).mono ?_
      rintro _ w4 ⟨A4, c4, rfl, ho4, h4⟩
      have K4 : Hid (Below w.heap.size w w4) := hid (K3.out.trans (h4.mono K3.out.size))
      clear h4 ho4 D1
      go_wp2_with fail
      go_ret
      exact ⟨rfl, K4.out⟩
theorem law_types : ∀ t ∈ Try.f6.params.toList, Try.prog.readableRec t = true ∧ t < Try.prog.types.size := by
  have h : (Try.f6.params.toList.all fun t => Try.prog.readableRec t && decide (t < Try.prog.types.size)) = true := by kernel_rfl
  intro t ht
  simpa using List.all_eq_true.1 h t ht
set_option maxRecDepth 100000 in
theorem lifted (os : Os) (started : os.Started) (H : Type) (enc : TypeId × Value → H) :
    ReturnsInHanded {} Try.checked os 6 .any (Rows.mlpHidesSpec.pre6 enc Try.prog Try.f6 Rows.mlpHidesRow.domain false) (Rows.mlpHidesSpec.post enc Try.prog Try.f6 false true false false) := by
  refine returnsInHanded_of_change (C := Try.checked) own started (by kernel_rfl) Try.func6
    (ChangeSpec.witness6 (enc := enc) (C := Try.checked) false ⟨#[], #[.int .i64 0, .slice none 0 0, .slice none 0 0, .int .i64 0], []⟩ 8 (by kernel_rfl) (by kernel_rfl) (by kernel_rfl) (by kernel_rfl)) ?_
  intro W base args ds gs before hval0 hW hcnd _
  have hval : ∀ (j : Nat) t v, Try.f6.params[j]? = some t → args[j]? = some v → Value.okWide Try.prog W .any base t v := hval0
  have hW' := hW
  obtain ⟨p, q, hA0, hV, rfl, hfz, hnd⟩ := hW
  have hA : DataW.TrodAll enc Try.prog W 0 (fun _ => true) true Try.f6.params.toList args.toList ds p := hA0
  rw [Try.params6] at hA hval
  obtain ⟨v0, vs0, d0, ds0, p0, q0, hargs, rfl, rfl, h0, r0⟩ := trodAll_cons hA
  obtain ⟨v1, vs1, d1, ds1, p1, q1, rfl, rfl, rfl, h1, r1⟩ := trodAll_cons r0
  obtain ⟨v2, vs2, d2, ds2, p2, q2, rfl, rfl, rfl, h2, r2⟩ := trodAll_cons r1
  obtain ⟨v3, vs3, d3, ds3, p3, q3, rfl, rfl, rfl, h3, r3⟩ := trodAll_cons r2
  obtain ⟨rfl, rfl, rfl⟩ := trodAll_nil r3
  obtain rfl : args = #[v0, v1, v2, v3] := by cases args; simp_all
  obtain ⟨rfl, rfl⟩ := trodVars_none hV
  obtain ⟨o, rfl, rfl, rfl, w0⟩ := open_int Try.underlying3 (hval 0 3 v0 rfl rfl) h0
  obtain ⟨Au, u, cu, rfl, rdu, iu, lcu, lmu⟩ := open_nums Try.underlying22 Try.underlying2 cells_i64' (hval 1 22 v1 rfl rfl) h1
  obtain ⟨Ax, x, cx, rfl, rdx, ix, lcx, lmx⟩ := open_nums Try.underlying22 Try.underlying2 cells_i64' (hval 2 22 v2 rfl rfl) h2
  obtain ⟨f, rfl, rfl, rfl, w3⟩ := open_int Try.underlying3 (hval 3 3 v3 rfl rfl) h3
  clear hA0 hval0
  refine (walk o Au u cu Ax x cx f W (I64.of_wf w0) rdu (fun x hx => I64.of_wf (iu x hx)) lcu lmu rdx (fun x hx => I64.of_wf (ix x hx)) lcx lmx (I64.of_wf w3)).mono fun e W' ⟨he, hb⟩ => ?_
  subst he
  exact ⟨_, rfl, law_post laid (fun t ht => law_types t ht) rfl hW' ⟨rfl, rfl, rfl⟩ (by kernel_rfl) Try.underlying4 hb⟩

theorem over : Rows.mlpHidesRow.holds Try.pinned (OpenSpec.ofChange Rows.mlpHidesSpec) :=
  OpenClaim.holds_of_wide 6 Try.f6 rfl rfl rfl rfl rfl rfl rfl ⟨rfl, rfl, rfl, rfl, rfl⟩ rfl rfl rfl rfl rfl (by kernel_rfl) Try.func6 (by kernel_rfl)
    (of_decide_eq_true (by kernel_rfl)) (by unfold Func.isWrapper; first | (rw [if_pos (by decide +kernel)]; kernel_rfl) | (rw [if_neg (by decide +kernel)]; exact ⟨rfl, rfl⟩))
    (fun os started H enc _ => lifted os started H enc)

theorem proved : Rows.MlpHidesSaid := over
end Go.Proofs.Ytekpejemfkjhcaa.MlpHides
