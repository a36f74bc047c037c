
/- Places written and read, by the document. -/
import Derived.Test.YtgdkmgepconnpaaIxA
import Derived.Test.YtgdkmgepconnpaaLebD
namespace Go.Proofs.Ytgdkmgepconnpaa
open Go.RowKit
set_option maxHeartbeats 400000
set_option linter.unusedVariables false
theorem info_int : (Try.prog.info? 3).map (fun i => (i.zero, i.size, i.bytes)) = some (some (.int .i64 0), 1, 8) := by kernel_rfl
/-- A call's answer: places of the call's own, where it ends, an error. -/
def OwnG (r : List Int × Int × Int) (w : World) (e : Ending) (w' : World) : Prop :=
  ∃ A c, e = .returned (.tuple #[.slice A r.1.length c, .int .i64 r.2.1, .int .i64 r.2.2]) ∧ w'.ownsRow w.heap.size 3 1 (.slice A r.1.length c) r.1.length (r.1.map (Value.int .i64)) ∧ Below w.heap.size w w'
theorem OwnG.nil {er : Int} {w w' : World} (hb : Below w.heap.size w w') : OwnG ([], 0, er) w (.returned (.tuple #[.slice none 0 0, .int .i64 0, .int .i64 er])) w' := ⟨none, 0, rfl, own_nil _ _ _, hb⟩
theorem plc_take {dim : Int} {l : List Int} (h : plcP dim l) (k : Nat) : plcP dim (l.take k) := ⟨h.1, h.2.1, ris_take h.2.2.1 k, fun n hn => h.2.2.2 n (List.mem_of_mem_take hn)⟩
/-- The codes of how many there are, and of the first ones. -/
def putK (l : List Int) (k : Nat) : List Int := encs ((l.length : Int) :: gapsF (-1) (l.take k))
theorem putK_step {l : List Int} {k : Nat} {x : Int} (h : l[k]? = some x) : putK l (k + 1) = putK l k ++ encs [x - lastI (-1) (l.take k) - 1] := by
  unfold putK
  rw [putL_step h, ← List.cons_append, encs_app]
theorem putK_len {dim : Int} {l : List Int} (h : plcP dim l) (k : Nat) : (putK l k).length ≤ 41000 := by
  have h1 := plc_le h
  have h2 := plc_le (plc_take h k)
  have hd := h.2.1
  have hu : U64s ((l.length : Int) :: gapsF (-1) (l.take k)) := by
    have hp := plc_take h k
    intro x hx
    rcases List.mem_cons.1 hx with rfl | hx
    · unfold U64; omega
    · exact gaps_u64 _ (-1) (plc_cons hp) (by omega) (fun n hn => by have := hp.2.2.2 n hn; omega) x hx
  have := encs_len hu
  unfold putK
  rw [List.length_cons, gaps_len] at this
  omega
theorem putK_all (l : List Int) : putK l l.length = encs (putL l) := by unfold putK putL; rw [List.take_length]
theorem ref_PutIx {A : Option Addr} {c : Nat} (dim : Int) (l : List Int) (hd : I64 dim) (hl : l.length ≤ 9223372036854775807) (w : World) (ra : Rd (Value.int .i64) w w.heap.size A l) :
    Calls Try.prog 12 #[.int .i64 dim, .slice A l.length c] w (OwnE 5 .u8 w.heap.size (pixV dim l) (chkE dim l) w) := by
  have C := hid (ref_Check (A := A) (c := c) dim l hd hl w ra)
  by_cases h : chkE dim l = 0
  · have hp := chk_ok.1 h
    have hlen := plc_le hp
    have hd4 := hp.2.1
    have e : pixV dim l = putK l l.length := by unfold pixV; rw [if_pos h, putK_all]
    rw [h] at C
    rw [h, e]
    have RA := hid ra
    have HS0 : Hid (putK l 0 = encs [(l.length : Int)]) := hid (by unfold putK; rw [List.take_zero]; rfl)
    have HS : Hid (∀ k x, l[k]? = some x → putK l (k + 1) = putK l k ++ encs [x - lastI (-1) (l.take k) - 1]) := hid (fun k x h => putK_step h)
    have HL : Hid (∀ k x, l[k]? = some x → lastI (-1) (l.take (k + 1)) = x) := hid (fun k x h => lastI_step h)
    have HI : Hid (∀ k x, l[k]? = some x → -1 ≤ lastI (-1) (l.take k) ∧ lastI (-1) (l.take k) < x ∧ 0 ≤ x ∧ x < dim) := hid (fun k x h => lastI_lt hp h)
    have HB := hid (putK_len hp)
    have HI0 : Hid (lastI (-1) (l.take 0) = -1) := hid rfl
    obtain ⟨S, hS⟩ : ∃ S : Nat → List Int, putK l = S := ⟨_, rfl⟩
    obtain ⟨T, hT⟩ : ∃ T : Nat → Int, (fun k => lastI (-1) (l.take k)) = T := ⟨_, rfl⟩
    have hT' : ∀ k, lastI (-1) (l.take k) = T k := fun k => by rw [← hT]
    simp only [hT'] at HS HL HI HI0
    rw [hS] at HS HB HS0 ⊢
    obtain ⟨N, hN⟩ : ∃ N, l.length = N := ⟨_, rfl⟩
    have HN := hid hN
    rw [hN] at C hlen HS0 ⊢
    have CP0 : Hid (∀ g W, W.cell? ⟨g, 0, none⟩ = some (.int .u64 (N : Int)) → Calls Try.prog 33 #[.slice none 0 0, .slice (some ⟨g, 0, none⟩) 1 1] W (OwnOf 5 .u8 W.heap.size (S 0) W)) := hid (fun g W h => by
      have h := ref_Put (A := none) (B := some ⟨g, 0, none⟩) (c := 0) (d := 1) [] [(N : Int)] (by decide) (by simp) (by intro x hx; simp at hx; subst hx; unfold U64; omega) W Rd.none_ (rd_one h)
      rw [List.nil_append, ← HS0.out] at h
      exact h)
    have hN4 : N ≤ 4096 := by omega
    clear h hp hlen e hS hT hT' hN ra HS0 hl
    go_enter Try.func12, Try.ntmps12
    go_wp2_with fail
    refine C.out.mono ?_
    rintro _ w0 ⟨rfl, n0, hw0⟩
    have k0 : Below w.heap.size w w0 := by rw [hw0]; exact belowN _ _ n0
    clear hw0 C
    go_wp2_with fail
    refine (CP0.out _ _ (one_cell w0 _ _).1).mono ?_
    rintro _ w1 ⟨A1, c1, rfl, ho1, hb1⟩
    have kz := (one_cell w0 (.int .u64 (N : Int)) 56).2
    have k1 : Below w.heap.size w w1 := k0.trans ((kz.trans (hb1.mono kz.size)).mono k0.size)
    have hsz : w.heap.size ≤ (w0.alloc (.cells #[.int .u64 (N : Int)] 56)).heap.size := by have := k0.size; have := kz.size; omega
    have HO1 := hid (own_base ho1 hsz)
    clear ho1 hb1 kz hsz k0
    go_wp2_with fail
    go_loopw [7, 8, 10, 24] (fun t p x0 i wr => ∃ (k : Nat) (A2 : Option Addr) (c2 : Nat), k ≤ N ∧ i = .int .i64 k ∧ p = .int .i64 (T k) ∧ t = .slice A2 (S k).length c2 ∧ wr.ownsRow w.heap.size 5 1 (.slice A2 (S k).length c2) (S k).length ((S k).map (Value.int .u8)) ∧ Below w.heap.size w wr) (fun _ _ _ i _ => N - (intOf i).toNat)
    case atStart => exact ⟨0, A1, c1, by omega, rfl, by rw [HI0.out], rfl, HO1.out, k1⟩
    case round =>
      clear HO1 k1
      obtain ⟨k, A2, c2, hk, rfl, rfl, rfl, ho, hbel⟩ := hrel
      have HO := hid ho
      clear ho
      by_cases hlt : k < N
      · obtain ⟨b1, o1, x, rfl, l1, ex, cx⟩ := (RA.out.below hbel).at_ (k := k) (by rw [HN.out]; exact hlt)
        have hi := HI.out k x ex
        have HSk := hid (HS.out k x ex)
        have HLk := hid (HL.out k x ex)
        have hSb := HB.out k
        obtain ⟨t, ht⟩ : ∃ t, T k = t := ⟨_, rfl⟩
        obtain ⟨g, hg⟩ : ∃ g, x - t - 1 = g := ⟨_, rfl⟩
        rw [ht] at hi HSk
        rw [hg] at HSk
        obtain ⟨Sk, hSk⟩ : ∃ Sk, S k = Sk := ⟨_, rfl⟩
        rw [hSk] at HO HSk hSb
        have CP : Hid (∀ W g', W.cell? ⟨g', 0, none⟩ = some (.int .u64 g) → Rd (Value.int .u8) W W.heap.size A2 Sk → Calls Try.prog 33 #[.slice A2 Sk.length c2, .slice (some ⟨g', 0, none⟩) 1 1] W (OwnOf 5 .u8 W.heap.size (S (k + 1)) W)) := hid (fun W g' h hr => by
          have h := ref_Put (A := A2) (B := some ⟨g', 0, none⟩) (c := c2) (d := 1) Sk [g] (by omega) (by simp) (by intro y hy; simp at hy; subst hy; unfold U64; omega) W hr (rd_one h)
          rw [← HSk.out] at h
          exact h)
        have HRd := hid (own_rd HO.out)
        have hg0 : 0 ≤ g ∧ g ≤ 4096 := by omega
        clear ex HO HSk
        rw [ht, hSk]
        go_wp2_with fail
        have kz := (one_cell wr (.int .u64 g) 56)
        refine (CP.out _ _ kz.1 (HRd.out.on kz.2)).mono ?_
        rintro _ w2 ⟨A3, c3, rfl, ho3, hb3⟩
        have k3 : Below w.heap.size w w2 := hbel.trans ((kz.2.trans (hb3.mono kz.2.size)).mono hbel.size)
        have hsz : w.heap.size ≤ (wr.alloc (.cells #[.int .u64 g] 56)).heap.size := by have := hbel.size; have := kz.2.size; omega
        have HO3 := hid (own_base ho3 hsz)
        clear ho3 hb3 kz hsz HRd
        go_wp2_with fail
        go_roundw
        case rel => exact ⟨k + 1, A3, c3, by omega, by go_num, by rw [HLk.out], rfl, HO3.out, k3⟩
        case measure => simp [intOf]; omega
      · obtain rfl : k = N := by omega
        go_wp2_with fail
        go_ret2
        exact ⟨A2, c2, rfl, HO.out, hbel⟩
  · have e : pixV dim l = [] := if_neg h
    rw [e]
    obtain ⟨E, hE⟩ : ∃ E, chkE dim l = E := ⟨_, rfl⟩
    rw [hE] at C h ⊢
    have hne : (E != 0) = true := by simpa using h
    clear h e hE ra
    go_enter Try.func12, Try.ntmps12
    go_wp2_with fail
    refine C.out.mono ?_
    rintro _ _ ⟨rfl, n0, rfl⟩
    go_wp2_with fail
    go_ret2
    exact .nil (belowN _ _ _)
theorem gix_cases {dim : Int} {b : List Int} {a : Int} (h1 : 1 ≤ dim) (h2 : dim ≤ 4096) : (getE b a ≠ 0 → gixR dim b a = ([], 0, getE b a)) ∧ (getE b a = 0 → dim < getN b a → gixR dim b a = ([], 0, 6)) ∧
    (getE b a = 0 → getN b a ≤ dim → withL [] (ixL dim b (getN b a).toNat (-1) (getA b a)) = gixR dim b a) := by
  unfold gixR
  rw [if_neg (by omega)]
  refine ⟨fun h => if_pos h, fun h h3 => ?_, fun h h3 => ?_⟩
  · have h' : ¬ getE b a ≠ 0 := fun hn => hn h
    rw [if_neg h', if_pos h3]
  · have h' : ¬ getE b a ≠ 0 := fun hn => hn h
    rw [if_neg h', if_neg (by omega)]
    exact withL_nil (ixL_bad dim b _ _ _)
theorem ref_GetIx {A : Option Addr} {c : Nat} (dim : Int) (b : List Int) (hd : I64 dim) (hb : b.length ≤ c) (hc : c ≤ 9223372036854775807) (ub : U8s b) (a : Int) (ha : I64 a) (w : World) (ra : Rd (Value.int .u8) w w.heap.size A b) :
    Calls Try.prog 14 #[.int .i64 dim, .slice A b.length c, .int .i64 a] w (OwnG (gixR dim b a) w) := by
  unfold I64 at hd
  by_cases h1 : dim < 1
  · have e : gixR dim b a = ([], 0, 1) := if_pos (Or.inl h1)
    rw [e]
    clear e ra ub
    go_enter Try.func14, Try.ntmps14
    go_wp2_with fail
    go_ret3
    exact OwnG.nil (Below.refl _ _)
  · by_cases h2 : 4096 < dim
    · have e : gixR dim b a = ([], 0, 1) := if_pos (Or.inr h2)
      rw [e]
      clear e ra ub
      go_enter Try.func14, Try.ntmps14
      go_wp2_with fail
      go_ret3
      exact OwnG.nil (Below.refl _ _)
    · have h1' : 1 ≤ dim := by omega
      have h2' : dim ≤ 4096 := by omega
      have CG := hid (ref_Get (A := A) (c := c) b hb hc ub a ha w ra)
      have HOK := hid (fun h => (get_ok (b := b) (a := a) ub h).2.1)
      have HX := hid (fun h => getA_i64 (b := b) (a := a) (c := c) ub hb hc h)
      have HM := hid (gix_cases (b := b) (a := a) h1' h2')
      obtain ⟨r, hr⟩ : ∃ r, gixR dim b a = r := ⟨_, rfl⟩
      obtain ⟨N, hN⟩ : ∃ N, getN b a = N := ⟨_, rfl⟩
      obtain ⟨E, hE⟩ : ∃ N, getE b a = N := ⟨_, rfl⟩
      obtain ⟨X, hX⟩ : ∃ N, getA b a = N := ⟨_, rfl⟩
      rw [hr, hN, hE, hX] at HM
      rw [hN, hE, hX] at CG
      rw [hE, hX] at HX
      rw [hN, hE] at HOK
      rw [hr]
      have HA := hid ra
      have HU := hid ub
      clear hr hN hE hX ra ub h1 h2
      by_cases her : E = 0
      · have hNu := HOK.out her
        have hXi := HX.out her
        unfold U64 at hNu
        by_cases hdim : dim < N
        · have HR := hid (HM.out.2.1 her hdim)
          subst her
          clear HM HOK HX
          go_enter Try.func14, Try.ntmps14
          go_wp2_with fail
          refine CG.out.mono ?_
          rintro _ _ ⟨rfl, rfl⟩
          go_wp2_with fail
          go_ret3
          rw [HR.out]
          exact OwnG.nil (Below.refl _ _)
        · have HR := hid (HM.out.2.2 her (by omega))
          subst her
          obtain ⟨M, rfl⟩ := Int.eq_ofNat_of_zero_le hNu.1
          rw [Int.toNat_natCast] at HR
          have hMd : (M : Int) ≤ dim := by omega
          clear HM HOK HX hNu hdim
          go_enter Try.func14, Try.ntmps14
          go_wp2_with fail
          refine CG.out.mono ?_
          rintro _ _ ⟨rfl, rfl⟩
          go_wp2_with fail
          go_loopw [2, 11, 12, 37] (fun p t q i wr => ∃ (k : Nat) (x y : Int) (O : List Int) (A2 : Option Addr) (c2 : Nat), k ≤ M ∧ i = .int .u64 k ∧ p = .int .i64 x ∧ I64 x ∧ q = .int .i64 y ∧ -1 ≤ y ∧ y < dim ∧ t = .slice A2 O.length c2 ∧ O.length = k ∧ withL O (ixL dim b (M - k) y x) = r ∧ wr.ownsRow w.heap.size 3 1 (.slice A2 O.length c2) O.length (O.map (Value.int .i64)) ∧ Below w.heap.size w wr) (fun _ _ _ i _ => M - (intOf i).toNat)
          case atStart => exact ⟨0, X, -1, [], none, 0, by omega, rfl, rfl, hXi, rfl, by omega, by omega, rfl, rfl, HR.out, own_nil _ _ _, Below.refl _ _⟩
          case round =>
            obtain ⟨k, x, y, O, A2, c2, hk, rfl, rfl, hx, rfl, hy0, hy1, rfl, hOk, hs, ho, hbel⟩ := hrel
            have hOl : O.length ≤ 4096 := by omega
            have HS := hid hs
            have HO := hid ho
            have HK := hid hOk
            clear hs ho hOk HR
            by_cases hlt : k < M
            · have CG2 := hid (fun W h => ref_Get (A := A) (c := c) b hb hc HU.out x hx W (B := w.heap.size) h)
              have HX2 := hid (fun h => getA_i64 (b := b) (a := x) (c := c) HU.out hb hc h)
              have HOK2 := hid (fun h => (get_ok (b := b) (a := x) HU.out h).2.1)
              have HM2 : Hid ((getE b x ≠ 0 → r = ([], 0, getE b x)) ∧ (getE b x = 0 → dim - y - 1 ≤ getN b x → r = ([], 0, 6)) ∧ (getE b x = 0 → getN b x < dim - y - 1 → withL (O ++ [y + getN b x + 1]) (ixL dim b (M - (k + 1)) (y + getN b x + 1) (getA b x)) = r)) := by
                have h := HS.out
                rw [show M - k = (M - (k + 1)) + 1 by omega] at h
                exact ⟨fun e => by rw [← h]; exact withL_err e, fun e1 e2 => by rw [← h]; exact withL_form e1 e2, fun e1 e2 => by rw [← h]; exact (withL_step e1 e2).symm⟩
              obtain ⟨N, hN⟩ : ∃ N, getN b x = N := ⟨_, rfl⟩
              obtain ⟨E, hE⟩ : ∃ N, getE b x = N := ⟨_, rfl⟩
              obtain ⟨X2, hX⟩ : ∃ N, getA b x = N := ⟨_, rfl⟩
              rw [hN, hE, hX] at HM2 CG2
              rw [hE, hX] at HX2
              rw [hN, hE] at HOK2
              clear hN hE hX
              have hr2 := HA.out.below hbel
              go_wp2_with fail
              refine (CG2.out _ hr2).mono ?_
              rintro _ _ ⟨rfl, rfl⟩
              clear hr2
              by_cases her : E = 0
              · have hX2 := HX2.out her
                have hN2 := HOK2.out her
                unfold U64 at hN2
                by_cases hbig : dim - y - 1 ≤ N
                · have HR2 := hid (HM2.out.2.1 her hbig)
                  subst her
                  go_wp2_with fail
                  go_ret3
                  rw [HR2.out]
                  exact OwnG.nil hbel
                · have HR2 := hid (HM2.out.2.2 her (by omega))
                  subst her
                  have hsm : N < dim - y - 1 := by omega
                  obtain ⟨z, hz⟩ : ∃ z, y + N + 1 = z := ⟨_, rfl⟩
                  rw [hz] at HR2
                  have hz2 : y + (N + 1) = z := by omega
                  have hzb : 0 ≤ z ∧ z < dim := by omega
                  have hr0 : Rd (Value.int .i64) (wr.alloc (.cells #[.int .i64 z] 3)) _ (some ⟨wr.heap.size, 0, none⟩) [z] := rd_one (one_cell wr (.int .i64 z) 3).1
                  have h0' := own_on HO.out ((Below.refl wr.heap.size wr).alloc (Nat.le_refl _) (.cells #[.int .i64 z] 3))
                  clear hbig hz
                  go_wp2_with (at_builtin; refine wpList_app (Value.int .i64) (fun _ => rfl) _ rfl _ _ 22 rfl w.heap.size 3 (.int .i64 0) 8 Try.underlying22 info_int rfl O _ _ rfl h0' [z] _ 1 _ rfl hr0 (by simp [maxLen]; omega) (by simp; omega) (by have := hbel.size; simp; omega) ?_)
                  rintro O' A' c' w1 hO' ho hb1 _
                  have HO'' := hid hO'
                  have HO' := hid ho
                  clear hO' ho h0' hr0
                  go_wp2_with fail
                  go_roundw
                  case rel =>
                    refine ⟨k + 1, X2, z, O', A', c', by omega, by go_num, rfl, hX2, rfl, by omega, hzb.2, rfl, ?_, ?_, HO'.out, (hbel.alloc hbel.size _).trans hb1⟩
                    · rw [HO''.out, List.length_append, HK.out]; rfl
                    · rw [HO''.out]; exact HR2.out
                  case measure => simp [intOf]; omega
              · have hne : (E != 0) = true := by simpa using her
                have HR2 := hid (HM2.out.1 her)
                go_wp2_with fail
                go_ret3
                rw [HR2.out]
                exact OwnG.nil hbel
            · obtain rfl : k = M := by omega
              have HR2 : Hid (r = (O, x, 0)) := by
                have h := HS.out
                rw [Nat.sub_self, withL_end] at h
                exact h.symm
              go_wp2_with fail
              go_ret3
              rw [HR2.out]
              exact ⟨A2, c2, rfl, HO.out, hbel⟩
      · have hne : (E != 0) = true := by simpa using her
        have HR := hid (HM.out.1 her)
        clear HM HOK HX
        go_enter Try.func14, Try.ntmps14
        go_wp2_with fail
        refine CG.out.mono ?_
        rintro _ _ ⟨rfl, rfl⟩
        go_wp2_with fail
        go_ret3
        rw [HR.out]
        exact OwnG.nil (Below.refl _ _)
end Go.Proofs.Ytgdkmgepconnpaa
