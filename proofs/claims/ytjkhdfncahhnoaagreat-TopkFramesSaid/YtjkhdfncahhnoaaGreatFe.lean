
/- Fe: texts joined: FsA IxR BoxG. -/
import Derived.Test.YtjkhdfncahhnoaaGreatFFrA
import Derived.Test.YtjkhdfncahhnoaaGreatFIxQ
import Derived.Test.YtjkhdfncahhnoaaGreatFb
/- Lists and arrays that are compared, by package slices; the program's view of a vector and of a frame. -/
namespace Go.Proofs.YtjkhdfncahhnoaaGreat
open Go.RowKit
set_option maxHeartbeats 400000
set_option maxRecDepth 100000
set_option linter.unusedVariables false
theorem equal_eight (a b c d e f g h a' b' c' d' e' f' g' h' : Int) (w : World) :
    (Op.equalIn 10000 88 (.agg #[.int .i64 a, .int .i64 b, .int .i64 c, .int .i64 d, .int .i64 e, .int .i64 f, .int .i64 g, .int .i64 h]) (.agg #[.int .i64 a', .int .i64 b', .int .i64 c', .int .i64 d', .int .i64 e', .int .i64 f', .int .i64 g', .int .i64 h'])).run Tryz.prog w = .ok (eqB [a, b, c, d, e, f, g, h] [a', b', c', d', e', f', g', h']) w := by
  have h0 : ∀ (x0 x1 x2 x3 x4 x5 x6 x7 : Int) (w : World), (part 2 #[.int .i64 x0, .int .i64 x1, .int .i64 x2, .int .i64 x3, .int .i64 x4, .int .i64 x5, .int .i64 x6, .int .i64 x7] 0).run Tryz.prog w = .ok (.int .i64 x0) w := fun _ _ _ _ _ _ _ _ _ => by kernel_rfl
  have h1 : ∀ (x0 x1 x2 x3 x4 x5 x6 x7 : Int) (w : World), (part 2 #[.int .i64 x0, .int .i64 x1, .int .i64 x2, .int .i64 x3, .int .i64 x4, .int .i64 x5, .int .i64 x6, .int .i64 x7] 1).run Tryz.prog w = .ok (.int .i64 x1) w := fun _ _ _ _ _ _ _ _ _ => by kernel_rfl
  have h2 : ∀ (x0 x1 x2 x3 x4 x5 x6 x7 : Int) (w : World), (part 2 #[.int .i64 x0, .int .i64 x1, .int .i64 x2, .int .i64 x3, .int .i64 x4, .int .i64 x5, .int .i64 x6, .int .i64 x7] 2).run Tryz.prog w = .ok (.int .i64 x2) w := fun _ _ _ _ _ _ _ _ _ => by kernel_rfl
  have h3 : ∀ (x0 x1 x2 x3 x4 x5 x6 x7 : Int) (w : World), (part 2 #[.int .i64 x0, .int .i64 x1, .int .i64 x2, .int .i64 x3, .int .i64 x4, .int .i64 x5, .int .i64 x6, .int .i64 x7] 3).run Tryz.prog w = .ok (.int .i64 x3) w := fun _ _ _ _ _ _ _ _ _ => by kernel_rfl
  have h4 : ∀ (x0 x1 x2 x3 x4 x5 x6 x7 : Int) (w : World), (part 2 #[.int .i64 x0, .int .i64 x1, .int .i64 x2, .int .i64 x3, .int .i64 x4, .int .i64 x5, .int .i64 x6, .int .i64 x7] 4).run Tryz.prog w = .ok (.int .i64 x4) w := fun _ _ _ _ _ _ _ _ _ => by kernel_rfl
  have h5 : ∀ (x0 x1 x2 x3 x4 x5 x6 x7 : Int) (w : World), (part 2 #[.int .i64 x0, .int .i64 x1, .int .i64 x2, .int .i64 x3, .int .i64 x4, .int .i64 x5, .int .i64 x6, .int .i64 x7] 5).run Tryz.prog w = .ok (.int .i64 x5) w := fun _ _ _ _ _ _ _ _ _ => by kernel_rfl
  have h6 : ∀ (x0 x1 x2 x3 x4 x5 x6 x7 : Int) (w : World), (part 2 #[.int .i64 x0, .int .i64 x1, .int .i64 x2, .int .i64 x3, .int .i64 x4, .int .i64 x5, .int .i64 x6, .int .i64 x7] 6).run Tryz.prog w = .ok (.int .i64 x6) w := fun _ _ _ _ _ _ _ _ _ => by kernel_rfl
  have h7 : ∀ (x0 x1 x2 x3 x4 x5 x6 x7 : Int) (w : World), (part 2 #[.int .i64 x0, .int .i64 x1, .int .i64 x2, .int .i64 x3, .int .i64 x4, .int .i64 x5, .int .i64 x6, .int .i64 x7] 7).run Tryz.prog w = .ok (.int .i64 x7) w := fun _ _ _ _ _ _ _ _ _ => by kernel_rfl
  have hs : (sizeOf 2).run Tryz.prog w = .ok 1 w := by kernel_rfl
  rw [show (10000 : Nat) = 9998 + 1 + 1 from rfl]
  unfold Op.equalIn
  simp only [Sem.run_bind, run_underlying Tryz.underlying88, Result.andThen_ok, hs]
  simp only [Std.Legacy.Range.forIn_eq_forIn_range', Std.Legacy.Range.size]
  simp only [Nat.sub_zero, Nat.reduceAdd, Nat.reduceSub, Nat.reduceDiv, List.range', List.forIn_cons, List.forIn_nil, Sem.run_bind]
  have hq : ∀ x y : Int, (Op.equalIn 9999 2 (.int .i64 x) (.int .i64 y)).run Tryz.prog w = .ok (x == y) w := fun x y => run_equalIn_int w 9998 _ _ _ _ _ Tryz.underlying2
  simp only [Nat.zero_mul, Nat.one_mul, h0, hq, Result.andThen_ok]
  unfold eqB
  by_cases e0 : a = a'
  · subst e0
    by_cases e1 : b = b'
    · subst e1
      by_cases e2 : c = c'
      · subst e2
        by_cases e3 : d = d'
        · subst e3
          by_cases e4 : e = e'
          · subst e4
            by_cases e5 : f = f'
            · subst e5
              by_cases e6 : g = g'
              · subst e6
                by_cases e7 : h = h' <;> simp [h1, h2, h3, h4, h5, h6, h7, hq, e7]
              · simp [h1, h2, h3, h4, h5, h6, hq, e6]
            · simp [h1, h2, h3, h4, h5, hq, e5]
          · simp [h1, h2, h3, h4, hq, e4]
        · simp [h1, h2, h3, hq, e3]
      · simp [h1, h2, hq, e2]
    · simp [h1, hq, e1]
  · simp [e0]
end Go.Proofs.YtjkhdfncahhnoaaGreat
/- The program's places: their code put and got. -/
namespace Go.Proofs.YtjkhdfncahhnoaaGreat
open Go.RowKit
set_option maxHeartbeats 400000
set_option linter.unusedVariables false
theorem ix_numbers {A : Option Addr} {c : Nat} (dim : Int) (l : List Int) (hp : plcP dim l) (w : World) (ra : Rd (Value.int .i64) w w.heap.size A l) :
    Calls Tryz.prog 90 #[.slice A l.length c] w (OwnOf 47 .u64 w.heap.size (putL l) w) := by
  have hlen := plc_le hp
  have hd4 := hp.2.1
  have HL : Hid (∀ k x, l[k]? = some x → lastI (-1) (l.take (k + 1)) = x) := hid (fun k x h => lastI_step h)
  have HI : Hid (∀ k x, l[k]? = some x → -1 ≤ lastI (-1) (l.take k) ∧ lastI (-1) (l.take k) < x ∧ 0 ≤ x ∧ x < dim) := hid (fun k x h => lastI_lt hp h)
  have HG : Hid (∀ k x, l[k]? = some x → gapsF (-1) (l.take (k + 1)) = gapsF (-1) (l.take k) ++ [x - lastI (-1) (l.take k) - 1]) := hid (fun k x h => putL_step h)
  have HN0 : Hid (gapsF (-1) (l.take 0) = []) := hid rfl
  have HL0 : Hid (lastI (-1) (l.take 0) = -1) := hid rfl
  have HNl : Hid (∀ k, (gapsF (-1) (l.take k)).length ≤ l.length) := hid (fun k => by rw [gaps_len, List.length_take]; omega)
  have HE : Hid (∀ k, k = l.length → (l.length : Int) :: gapsF (-1) (l.take k) = putL l) := hid (fun k h => by rw [List.take_of_length_le (by omega)]; rfl)
  obtain ⟨R, hR⟩ : ∃ R, putL l = R := ⟨_, rfl⟩
  rw [hR] at HE ⊢
  obtain ⟨N, hN⟩ : ∃ N, l.length = N := ⟨_, rfl⟩
  have HN := hid hN
  rw [hN] at HE HNl hlen ⊢
  have RA := hid ra
  have hN4 : N ≤ 4096 := by omega
  have hmk := fun W => run_room (P := Tryz.prog) 26 47 (.int .u64 0) 8 Tryz.underlying26 info_u64 rfl (N + 1) (by omega) (by omega) W
  have h0 := own_room w 47 (.int .u64 0) (N + 1) (by simp [maxLen]; omega) (Nat.le_refl _)
  obtain ⟨w0, hw0⟩ : ∃ w0, w.alloc (.cells (madeCells #[.int .u64 0] (N + 1)) 47) = w0 := ⟨_, rfl⟩
  have hb0 : Below w.heap.size w w0 := by rw [← hw0]; exact (Below.refl _ _).alloc (Nat.le_refl _) _
  have hr0 : Rd (Value.int .u64) (w0.alloc (.cells #[.int .u64 (N : Int)] 47)) _ (some ⟨w0.heap.size, 0, none⟩) [(N : Int)] := rd_one (one_cell w0 (.int .u64 (N : Int)) 47).1
  have hrun := hmk w
  rw [hw0] at hrun h0
  rw [show ((N + 1 : Nat) : Int) = (N : Int) + 1 by omega] at hrun
  have h0' := own_on h0 ((Below.refl w0.heap.size w0).alloc (Nat.le_refl _) (.cells #[.int .u64 (N : Int)] 47))
  have hbw := hb0.alloc hb0.size (.cells #[.int .u64 (N : Int)] 47)
  clear hmk hw0 h0 hR hN ra hp hlen
  go_enter Tryz.func90, Tryz.ntmps90
  go_wp2_with (at_builtin; refine wpList_app (Value.int .u64) (fun _ => rfl) _ rfl _ _ 26 rfl w.heap.size 47 (.int .u64 0) 8 Tryz.underlying26 info_u64 rfl [] _ (N + 1) rfl h0' [(N : Int)] _ 1 _ rfl hr0 (by simp [maxLen]) (by simp) hbw.size ?_)
  rintro S A' c' w1 hS ho hb1 _
  have HS := hid hS
  have HO := hid ho
  have k1 := hbw.trans hb1
  clear hS ho hb1 hbw h0' hr0 hrun hb0
  go_wp2_with fail
  go_loopw [3, 4, 6, 18] (fun t p x0 i wr => ∃ (k : Nat) (S : List Int) (A2 : Option Addr) (c2 : Nat), k ≤ N ∧ i = .int .i64 k ∧ p = .int .i64 (lastI (-1) (l.take k) + 1) ∧ t = .slice A2 S.length c2 ∧ S = (N : Int) :: gapsF (-1) (l.take k) ∧ wr.ownsRow w.heap.size 47 1 (.slice A2 S.length c2) S.length (S.map (Value.int .u64)) ∧ Below w.heap.size w wr) (fun _ _ _ i _ => N - (intOf i).toNat)
  case atStart => exact ⟨0, S, A', c', by omega, rfl, by rw [HL0.out]; rfl, rfl, by rw [HS.out, HN0.out], HO.out, k1⟩
  case round =>
    clear HO k1 HS
    obtain ⟨k, S, A2, c2, hk, rfl, rfl, rfl, hS, ho, hbel⟩ := hrel
    have hSl : S.length ≤ 5000 := by have h1 := HNl.out k; rw [hS, List.length_cons]; omega
    have HS := hid hS
    have HO := hid ho
    clear hS ho
    by_cases hlt : k < N
    · obtain ⟨b1, o1, x, rfl, l1, ex, cx⟩ := (RA.out.below hbel).at_ (k := k) (by rw [HN.out]; exact hlt)
      have hi := HI.out k x ex
      have HGk := hid (HG.out k x ex)
      have HLk := hid (HL.out k x ex)
      obtain ⟨t, ht⟩ : ∃ t, lastI (-1) (l.take k) = t := ⟨_, rfl⟩
      obtain ⟨g, hg⟩ : ∃ g, x - t - 1 = g := ⟨_, rfl⟩
      rw [ht] at hi HGk
      rw [hg] at HGk
      have hg2 : x - (t + 1) = g := by omega
      have hgb : 0 ≤ g ∧ g ≤ 4096 := by omega
      have hr0 : Rd (Value.int .u64) (wr.alloc (.cells #[.int .u64 g] 47)) _ (some ⟨wr.heap.size, 0, none⟩) [g] := rd_one (one_cell wr (.int .u64 g) 47).1
      have h0' := own_on HO.out ((Below.refl wr.heap.size wr).alloc (Nat.le_refl _) (.cells #[.int .u64 g] 47))
      have hbs := hbel.size
      rw [ht]
      clear ex ht hg
      go_wp2_with (at_builtin; refine wpList_app (Value.int .u64) (fun _ => rfl) _ rfl _ _ 26 rfl w.heap.size 47 (.int .u64 0) 8 Tryz.underlying26 info_u64 rfl S _ _ rfl h0' [g] _ 1 _ rfl hr0 (by simp [maxLen]; omega) (by simp; omega) (by simp; omega) ?_)
      rintro S' A' c' w4 hS' ho hb4 _
      have HS' := hid hS'
      have HO' := hid ho
      clear hS' ho h0' hr0 hg2
      go_wp2_with fail
      go_roundw
      case rel => exact ⟨k + 1, S', A', c', by omega, by go_num, by rw [HLk.out], rfl, by rw [HS'.out, HS.out, HGk.out, List.cons_append], HO'.out, (hbel.alloc hbel.size _).trans hb4⟩
      case measure => simp [intOf]; omega
    · obtain rfl : k = N := by omega
      have HR : Hid (S = R) := hid (by rw [HS.out, HE.out k rfl])
      clear HS
      have h := HR.out
      subst h
      go_wp2_with fail
      go_ret
      exact ⟨A2, c2, rfl, HO.out, hbel⟩
theorem ix_Put {A : Option Addr} {c : Nat} (dim : Int) (l : List Int) (hd : I64 dim) (hl : l.length ≤ 100000) (w : World) (ra : Rd (Value.int .i64) w w.heap.size A l) :
    Calls Tryz.prog 60 #[.int .i64 dim, .slice A l.length c] w (OwnE 5 .u8 w.heap.size (pixV dim l) (chkE dim l) w) := by
  have C := hid (ix_Check (A := A) (c := c) dim l hd hl w ra)
  by_cases h : chkE dim l = 0
  · have hp := chk_ok.1 h
    have hlen := plc_le hp
    have hd4 := hp.2.1
    have e : pixV dim l = encs (putL l) := if_pos h
    rw [h] at C
    rw [h, e]
    have CN := hid (fun W h => ix_numbers (A := A) (c := c) dim l hp W h)
    have HPl : Hid ((putL l).length = l.length + 1) := hid (by unfold putL; rw [List.length_cons, gaps_len])
    have HPu := hid (putL_u64 hp)
    obtain ⟨P, hP⟩ : ∃ P, putL l = P := ⟨_, rfl⟩
    rw [hP] at CN HPl HPu ⊢
    have hPl : P.length ≤ 5000 := by rw [HPl.out]; omega
    have CP : Hid (∀ B d W, Rd (Value.int .u64) W W.heap.size B P → Calls Tryz.prog 16 #[.slice none 0 0, .slice B P.length d] W (OwnOf 5 .u8 W.heap.size (encs P) W)) := hid (fun B d W h => leb_Put (A := none) (B := B) (c := 0) (d := d) [] P (by decide) hPl HPu.out W Rd.none_ h)
    obtain ⟨R, hR⟩ : ∃ R, encs P = R := ⟨_, rfl⟩
    rw [hR] at CP ⊢
    have RA := hid ra
    clear h e hp hP hR ra hd HPl HPu hlen hd4
    go_enter Tryz.func60, Tryz.ntmps60
    go_wp2_with fail
    refine C.out.mono ?_
    rintro _ w1 ⟨rfl, hb1⟩
    have CN1 := hid (CN.out w1 (RA.out.on hb1))
    clear CN C
    go_wp2_with fail
    refine CN1.out.mono ?_
    rintro _ w2 ⟨A2, c2, rfl, ho2, hb2⟩
    have CP1 := hid (CP.out A2 c2 w2 (own_rd ho2))
    have k2 : Below w.heap.size w w2 := hb1.trans (hb2.mono hb1.size)
    clear CP CN1 ho2 hb2
    go_wp2_with fail
    refine CP1.out.mono ?_
    rintro _ w3 ⟨A3, c3, rfl, ho3, hb3⟩
    have HO := hid (own_base ho3 k2.size)
    clear ho3 CP1
    go_wp2_with fail
    go_ret2
    exact ⟨A3, c3, rfl, HO.out, k2.trans (hb3.mono k2.size)⟩
  · have e : pixV dim l = [] := if_neg h
    rw [e]
    obtain ⟨E, hE⟩ : ∃ E, chkE dim l = E := ⟨_, rfl⟩
    rw [hE] at C h ⊢
    have hne : (E != 0) = true := by simpa using h
    clear h e hE ra
    go_enter Tryz.func60, Tryz.ntmps60
    go_wp2_with fail
    refine C.out.mono ?_
    rintro _ _ ⟨rfl, hb1⟩
    go_wp2_with fail
    go_ret2
    exact .nil hb1
/-- A row that was made, filled place by place. -/
theorem own_fill {w' : World} {b B : Nat} {e : TypeId} {O : List Int} (h : w'.rowIs b e O.length (fun j => .int .i64 (O.getD j 0))) (hB : B ≤ b) (hn : O.length ≤ maxLen) :
    w'.ownsRow B e 1 (.slice (some ⟨b, 0, none⟩) O.length O.length) O.length (O.map (Value.int .i64)) := by
  have h2 := own_made (w' := w') h hB hn
  have e2 : (List.range O.length).map (fun j => Value.int .i64 (O.getD j 0)) = O.map (Value.int .i64) := by
    apply List.ext_getElem (by simp)
    intro i h1 h2
    simp at h1
    simp [List.getD, h1]
  rwa [e2] at h2
theorem getD_snoc (O : List Int) (z : Int) (j : Nat) : (O ++ [z]).getD j 0 = if j = O.length then z else O.getD j 0 := by
  unfold List.getD
  by_cases h : j < O.length
  · rw [List.getElem?_append_left h, if_neg (by omega)]
  · rw [List.getElem?_append_right (by omega)]
    by_cases e : j = O.length
    · rw [if_pos e, e]; simp
    · rw [if_neg e, List.getElem?_eq_none (by simp; omega), List.getElem?_eq_none (by omega)]
theorem ix_places {A : Option Addr} {c : Nat} (dim : Int) (M : Nat) (b : List Int) (h1' : 1 ≤ dim) (h2' : dim ≤ 4096) (hMd : (M : Int) ≤ dim) (hb : b.length ≤ c) (hc : c ≤ 9223372036854775807) (ub : U8s b) (a : Int) (ha : I64 a) (w : World) (ra : Rd (Value.int .u8) w w.heap.size A b) :
    Calls Tryz.prog 114 #[.int .i64 dim, .int .i64 (M : Int), .slice A b.length c, .int .i64 a] w (OwnG (ixL dim b M (-1) a) w) := by
  have HR : Hid (withL [] (ixL dim b (M - 0) (-1) a) = ixL dim b M (-1) a) := hid (by
    rw [Nat.sub_zero]
    exact withL_nil (fun h => ixL_bad _ _ _ _ _ h))
  obtain ⟨r, hr⟩ : ∃ r, ixL dim b M (-1) a = r := ⟨_, rfl⟩
  rw [hr] at HR ⊢
  have HA := hid ra
  have HU := hid ub
  have hmk := run_make_row' (P := Tryz.prog) 25 3 (.int .i64 0) 8 Tryz.underlying25 info_int rfl .i64 .i64 M (by omega) (by omega) w
  clear hr ra ub
  go_enter Tryz.func114, Tryz.ntmps114
  go_wp2_with fail
  go_loopw [3, 12, 13, 14, 15, 16, 21] (fun q p x13 x14 x15 x16 i wr => ∃ (k : Nat) (x y : Int) (O : List Int), k ≤ M ∧ i = .int .i64 k ∧ q = .int .i64 x ∧ I64 x ∧ p = .int .i64 (y + 1) ∧ -1 ≤ y ∧ y < dim ∧ O.length = k ∧ withL O (ixL dim b (M - k) y x) = r ∧ wr.rowIs w.heap.size 3 M (fun j => .int .i64 (O.getD j 0)) ∧ Below w.heap.size w wr) (fun _ _ _ _ _ _ i _ => M - (intOf i).toNat)
  case atStart => exact ⟨0, a, -1, [], by omega, rfl, rfl, ha, rfl, by omega, by omega, rfl, HR.out, (World.rowIs_made w (.int .i64 0) M _).congr (fun j hj => by simp [List.getD]), by go_grown⟩
  case round =>
    clear HR hmk
    obtain ⟨k, x, y, O, hk, rfl, rfl, hx, rfl, hy0, hy1, hOk, hs, hrow, hbel⟩ := hrel
    have HS := hid hs
    have HO := hid hrow
    have HK := hid hOk
    clear hs hOk hrow
    by_cases hlt : k < M
    · have CG2 := hid (fun W h => leb_Get (A := A) (c := c) b hb hc HU.out x hx W (B := w.heap.size) h)
      have HX2 := hid (fun h => getA_i64 (b := b) (a := x) (c := c) HU.out hb hc h)
      have HOK2 := hid (fun h => (get_ok (b := b) (a := x) HU.out h).2.1)
      have HM2 : Hid ((getE b x ≠ 0 → r = ([], 0, getE b x)) ∧ (getE b x = 0 → dim - y - 1 ≤ getN b x → r = ([], 0, 6)) ∧ (getE b x = 0 → getN b x < dim - y - 1 → withL (O ++ [y + getN b x + 1]) (ixL dim b (M - (k + 1)) (y + getN b x + 1) (getA b x)) = r)) := hid (by
        have h := HS.out
        rw [show M - k = (M - (k + 1)) + 1 by omega] at h
        exact ⟨fun e => by rw [← h]; exact withL_err e, fun e1 e2 => by rw [← h]; exact withL_form e1 e2, fun e1 e2 => by rw [← h]; exact (withL_step e1 e2).symm⟩)
      obtain ⟨N, hN⟩ : ∃ N, getN b x = N := ⟨_, rfl⟩
      obtain ⟨E, hE⟩ : ∃ N, getE b x = N := ⟨_, rfl⟩
      obtain ⟨X2, hX⟩ : ∃ N, getA b x = N := ⟨_, rfl⟩
      rw [hN, hE, hX] at HM2 CG2
      rw [hE, hX] at HX2
      rw [hN, hE] at HOK2
      clear hN hE hX
      have C := hid (CG2.out _ (HA.out.below hbel))
      clear CG2
      by_cases her : E = 0
      · have hX2 := HX2.out her
        have hN2 := HOK2.out her
        unfold U64 at hN2
        have hd1 : 0 ≤ dim - (y + 1) := by omega
        have hd2 : dim - (y + 1) ≤ 4096 := by omega
        by_cases hbig : dim - y - 1 ≤ N
        · have HR2 := hid (HM2.out.2.1 her hbig)
          have hbig2 : dim - (y + 1) ≤ N := by omega
          subst her
          clear HX2 HOK2 HM2 hbig
          go_wp2_with fail
          refine C.out.mono ?_
          rintro _ _ ⟨rfl, rfl⟩
          go_wp2_with fail
          go_ret3
          rw [HR2.out]
          exact OwnG.nil hbel
        · have HR2 := hid (HM2.out.2.2 her (by omega))
          have hsm : N < dim - (y + 1) := by omega
          subst her
          obtain ⟨z, hz⟩ : ∃ z, y + N + 1 = z := ⟨_, rfl⟩
          rw [hz] at HR2
          have hz2 : y + 1 + N = z := by omega
          have hzb : 0 ≤ z ∧ z < dim := by omega
          have f1 := HO.out.frozen k
          have c3 := HO.out.cell hlt
          clear hbig hz HX2 HOK2 HM2
          go_wp2_with fail
          refine C.out.mono ?_
          rintro _ _ ⟨rfl, rfl⟩
          go_wp2_with fail
          go_roundw
          case rel =>
            refine ⟨k + 1, X2, z, O ++ [z], by omega, by go_num, rfl, hX2, rfl, by omega, hzb.2, by rw [List.length_append, HK.out]; rfl, HR2.out, ?_, hbel.setCell (Nat.le_refl _) _⟩
            refine World.rowIs.congr (HO.out.set k (.int .i64 z)) fun j hj => ?_
            rw [getD_snoc, HK.out]
            by_cases e : j = k
            · rw [if_pos e, if_pos (by omega)]
            · rw [if_neg e, if_neg (by omega)]
          case measure => simp [intOf]; omega
      · have hne : (E != 0) = true := by simpa using her
        have HR2 := hid (HM2.out.1 her)
        clear HX2 HOK2 HM2
        go_wp2_with fail
        refine C.out.mono ?_
        rintro _ _ ⟨rfl, rfl⟩
        go_wp2_with fail
        go_ret3
        rw [HR2.out]
        exact OwnG.nil hbel
    · obtain rfl : k = M := by omega
      have HR2 : Hid (r = (O, x, 0)) := hid (by
        have h := HS.out
        rw [Nat.sub_self, withL_end] at h
        exact h.symm)
      go_wp2_with fail
      go_ret3
      rw [HR2.out]
      have HO2 := HO.out
      rw [← HK.out] at HO2
      refine ⟨some ⟨w.heap.size, 0, none⟩, O.length, by rw [HK.out]; rfl, own_fill HO2 (Nat.le_refl _) (by rw [HK.out]; simp [maxLen]; omega), hbel⟩
theorem ix_Get {A : Option Addr} {c : Nat} (dim : Int) (b : List Int) (hd : I64 dim) (hb : b.length ≤ c) (hc : c ≤ 9223372036854775807) (ub : U8s b) (a : Int) (ha : I64 a) (w : World) (ra : Rd (Value.int .u8) w w.heap.size A b) :
    Calls Tryz.prog 96 #[.int .i64 dim, .slice A b.length c, .int .i64 a] w (OwnG (gixR dim b a) w) := by
  have CM := hid (ix_may dim hd)
  unfold I64 at hd
  by_cases h1 : 1 ≤ dim ∧ dim ≤ 4096
  · have h1' := h1.1
    have h2' := h1.2
    rw [decide_eq_true h1] at CM
    have CG := hid (leb_Get (A := A) (c := c) b hb hc ub a ha w ra)
    have HOK := hid (fun h => (get_ok (b := b) (a := a) ub h).2.1)
    have HX := hid (fun h => getA_i64 (b := b) (a := a) (c := c) ub hb hc h)
    have HM := hid (gix_cases (b := b) (a := a) h1' h2')
    have CP : Hid (getE b a = 0 → ¬ dim < getN b a → Calls Tryz.prog 114 #[.int .i64 dim, .int .i64 (getN b a), .slice A b.length c, .int .i64 (getA b a)] w (OwnG (gixR dim b a) w)) := hid (fun he hn => by
      have hN := (get_ok (b := b) (a := a) ub he).2.1
      unfold U64 at hN
      obtain ⟨M, hM⟩ := Int.eq_ofNat_of_zero_le hN.1
      have h := ix_places (A := A) (c := c) dim M b h1' h2' (by omega) hb hc ub (getA b a) (getA_i64 ub hb hc he) w ra
      have e : gixR dim b a = ixL dim b M (-1) (getA b a) := by
        unfold gixR
        rw [if_neg (by omega), if_neg (by rw [he]; decide), if_neg hn, hM, Int.toNat_natCast]
      rw [e, hM]
      exact h)
    obtain ⟨r, hr⟩ : ∃ r, gixR dim b a = r := ⟨_, rfl⟩
    obtain ⟨N, hN⟩ : ∃ N, getN b a = N := ⟨_, rfl⟩
    obtain ⟨E, hE⟩ : ∃ E, getE b a = E := ⟨_, rfl⟩
    obtain ⟨X, hX⟩ : ∃ N, getA b a = N := ⟨_, rfl⟩
    rw [hr, hN, hE, hX] at HM CP
    rw [hN, hE, hX] at CG
    rw [hE, hX] at HX
    rw [hN, hE] at HOK
    rw [hr]
    clear hr hN hE hX ra ub h1
    by_cases her : E = 0
    · have hNu := HOK.out her
      unfold U64 at hNu
      by_cases hdim : dim < N
      · have HR := hid (HM.out.2.1 her hdim)
        subst her
        clear HM HOK HX CP
        go_enter Tryz.func96, Tryz.ntmps96
        go_wp2_with fail
        refine (CM.out w).mono ?_
        rintro _ _ ⟨rfl, rfl⟩
        go_wp2_with fail
        refine CG.out.mono ?_
        rintro _ _ ⟨rfl, rfl⟩
        go_wp2_with fail
        go_ret3
        rw [HR.out]
        exact OwnG.nil (Below.refl _ _)
      · have CQ := hid (CP.out her hdim)
        subst her
        clear HM HOK HX CP
        go_enter Tryz.func96, Tryz.ntmps96
        go_wp2_with fail
        refine (CM.out w).mono ?_
        rintro _ _ ⟨rfl, rfl⟩
        go_wp2_with fail
        refine CG.out.mono ?_
        rintro _ _ ⟨rfl, rfl⟩
        go_wp2_with fail
        refine CQ.out.mono ?_
        rintro _ w1 ⟨A2, c2, rfl, ho, hb1⟩
        have HO := hid ho
        clear ho
        go_wp2_with fail
        go_ret3
        exact ⟨A2, c2, rfl, HO.out, hb1⟩
    · have hne : (E != 0) = true := by simpa using her
      have HR := hid (HM.out.1 her)
      clear HM HOK HX CP
      go_enter Tryz.func96, Tryz.ntmps96
      go_wp2_with fail
      refine (CM.out w).mono ?_
      rintro _ _ ⟨rfl, rfl⟩
      go_wp2_with fail
      refine CG.out.mono ?_
      rintro _ _ ⟨rfl, rfl⟩
      go_wp2_with fail
      go_ret3
      rw [HR.out]
      exact OwnG.nil (Below.refl _ _)
  · rw [decide_eq_false h1] at CM
    have e : gixR dim b a = ([], 0, 1) := if_pos (by omega)
    rw [e]
    clear e ra ub h1
    go_enter Tryz.func96, Tryz.ntmps96
    go_wp2_with fail
    refine (CM.out w).mono ?_
    rintro _ _ ⟨rfl, rfl⟩
    go_wp2_with fail
    go_ret3
    exact OwnG.nil (Below.refl _ _)
end Go.Proofs.YtjkhdfncahhnoaaGreat
/- A frame's cells in a box. -/
namespace Go.Proofs.YtjkhdfncahhnoaaGreat
open Go.RowKit
set_option maxHeartbeats 4000000
set_option maxRecDepth 100000
set_option linter.unusedVariables false
def cellsG (f : FrameV) (p : SentP) : List Value := [.int .i64 f.knd, .int .i64 f.frm, .int .i64 f.stp, .int .i64 f.S.sch, .int .i64 f.S.dim, .slice p.AL f.S.L.length p.cL, .slice p.AV f.S.V.length p.cV, .int .i64 f.S.scale, .int .i64 f.S.wide, .slice p.AE f.S.lev.length p.cE, .slice p.AN f.S.neg.length p.cN]
theorem box_G {w : World} {h : Nat} {f : FrameV} {p : SentP} (hb : BoxL w h (cellsG f p)) : (w.cell? ⟨h, 0, none⟩ = some (.int .i64 f.knd) ∧ w.cell? ⟨h, 1, none⟩ = some (.int .i64 f.frm) ∧ w.cell? ⟨h, 2, none⟩ = some (.int .i64 f.stp) ∧ w.cell? ⟨h, 3, none⟩ = some (.int .i64 f.S.sch) ∧ w.cell? ⟨h, 4, none⟩ = some (.int .i64 f.S.dim) ∧ w.cell? ⟨h, 5, none⟩ = some (.slice p.AL f.S.L.length p.cL) ∧ w.cell? ⟨h, 6, none⟩ = some (.slice p.AV f.S.V.length p.cV) ∧ w.cell? ⟨h, 7, none⟩ = some (.int .i64 f.S.scale) ∧ w.cell? ⟨h, 8, none⟩ = some (.int .i64 f.S.wide) ∧ w.cell? ⟨h, 9, none⟩ = some (.slice p.AE f.S.lev.length p.cE) ∧ w.cell? ⟨h, 10, none⟩ = some (.slice p.AN f.S.neg.length p.cN)) ∧ (w.frozen? ⟨h, 0, none⟩ = false ∧ w.frozen? ⟨h, 1, none⟩ = false ∧ w.frozen? ⟨h, 2, none⟩ = false ∧ w.frozen? ⟨h, 3, none⟩ = false ∧ w.frozen? ⟨h, 4, none⟩ = false ∧ w.frozen? ⟨h, 5, none⟩ = false ∧ w.frozen? ⟨h, 6, none⟩ = false ∧ w.frozen? ⟨h, 7, none⟩ = false ∧ w.frozen? ⟨h, 8, none⟩ = false ∧ w.frozen? ⟨h, 9, none⟩ = false ∧ w.frozen? ⟨h, 10, none⟩ = false) :=
  ⟨⟨(hb 0 _ rfl).1, (hb 1 _ rfl).1, (hb 2 _ rfl).1, (hb 3 _ rfl).1, (hb 4 _ rfl).1, (hb 5 _ rfl).1, (hb 6 _ rfl).1, (hb 7 _ rfl).1, (hb 8 _ rfl).1, (hb 9 _ rfl).1, (hb 10 _ rfl).1⟩, (hb 0 _ rfl).2, (hb 1 _ rfl).2, (hb 2 _ rfl).2, (hb 3 _ rfl).2, (hb 4 _ rfl).2, (hb 5 _ rfl).2, (hb 6 _ rfl).2, (hb 7 _ rfl).2, (hb 8 _ rfl).2, (hb 9 _ rfl).2, (hb 10 _ rfl).2⟩
end Go.Proofs.YtjkhdfncahhnoaaGreat
