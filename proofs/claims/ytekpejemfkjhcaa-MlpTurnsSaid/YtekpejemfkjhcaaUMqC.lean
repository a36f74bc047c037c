
/- UMqC: texts joined: MqC. -/
import Derived.Test.YtekpejemfkjhcaaUb
import Derived.Test.YtekpejemfkjhcaaUc
import Derived.StillTailTactics
/- Two layers, by the landed code: how they are cut. -/
namespace Go.Proofs.Ytekpejemfkjhcaa
open Go.RowKit
set_option maxHeartbeats 4000000
set_option maxRecDepth 100000
set_option linter.unusedVariables false
attribute [local go_sem] Oper.semAt_some
theorem mq_row {w : World} {B b p n k : Nat} {u : List Int} (h : Rd (Value.int .i64) w B (some ⟨b, p, none⟩) u) : Rd (Value.int .i64) w B (some ⟨b, p + k * n, none⟩) (rwR n u k) := fun j y hj => by
  have hu : u[k * n + j]? = some y := by
    unfold rwR at hj
    rw [List.getElem?_take] at hj
    split at hj
    · rw [List.getElem?_drop] at hj; exact hj
    · cases hj
  obtain ⟨b', o', e, hb, hc⟩ := h _ _ hu
  cases e
  exact ⟨b, p + k * n, rfl, hb, by rw [Nat.add_assoc]; exact hc⟩
theorem cut_0 (b p cu : Nat) : cutA (some ⟨b, p, none⟩) 0 cu = some ⟨b, p, none⟩ := by
  unfold cutA
  split
  · rfl
  · simp [Addr.add]
/-- The lines of w, each of which sees m. -/
def lnsL (b p n : Nat) (m : Int) (k : Nat) : Ln := ((some ⟨b, p + k * n, none⟩, n, n), m)
theorem net_rd {w w' : World} {b p n O : Nat} {c base : Nat} {m : Nat} {u : List Int} {A : Option Addr} (h1 : msE (O : Int) u = 0) (hm : msN (O : Int) u = m) (hn : m + 1 = n) (ho : OwnLn w' base A c ((List.range O).map (lnsL b p n m))) (hb : Below w.heap.size w w') (ru : Rd (Value.int .i64) w w.heap.size (some ⟨b, p, none⟩) u) :
    RdLn w' w'.heap.size A (mlL (O : Int) u) (msN (O : Int) u) := fun k r hk => by
  obtain ⟨_, hr⟩ := mlL_row h1
  have hrl := hr r (List.mem_of_getElem? hk)
  obtain ⟨_, ⟨_, h16⟩, _⟩ := msE_ok.1 h1
  have hkO : k < O := by
    have := (List.getElem?_eq_some_iff.1 hk).1
    rw [mlL_len] at this
    simpa using this
  have e : r = rwR n u k := by
    unfold mlL at hk
    rw [List.getElem?_map, List.getElem?_range (by simpa using hkO), hm, hn] at hk
    simpa using hk.symm
  obtain ⟨g, rfl, hg, q0, q1⟩ := ho.at_ (k := k) (p := lnsL b p n m k) (by rw [List.getElem?_map, List.getElem?_range hkO]; rfl)
  rw [hm, hn] at hrl
  refine ⟨g, 0, some ⟨b, p + k * n, none⟩, n, rfl, hg, ?_, by rw [hm]; exact q1, by omega, by omega, ?_⟩
  · rw [hrl]; exact q0
  · rw [e]; exact mq_row (ru.on hb)
theorem net_res {tmps : Array Value} {W : World} {p : Nat} {a b c : Value} {e : Int} (ht : tmps[4]?.getD undef = .pointer (some ⟨p, 0, none⟩)) (hu : tmps[5]?.getD undef = .int .i64 e) (h : BoxL W p [a, b, c]) (ha : a.oneCell' = true) (hb : b.oneCell' = true) (hc : c.oneCell' = true) :
    (results Try.f30 tmps).run Try.prog W = .ok (.tuple #[.agg #[a, b, c], .int .i64 e]) W := by
  obtain ⟨⟨c0, c1, c2⟩, _⟩ := h.three
  simp [results, Try.f30, go_sem, ht, hu, c0, c1, c2]
theorem wr_nat {x : Nat} (h : x ≤ 9223372036854775807) : IntKind.i64.wrap (x : Int) = (x : Int) ∧ wrap64 (x : Int) = (x : Int) := ⟨Go.IntWalk.i64_in _ (by omega), Go.IntWalk.wrap64_in _ (by omega)⟩
theorem wr_add1 {x y : Nat} (h : x + 1 = y) (hy : y ≤ 9223372036854775807) : IntKind.i64.wrap ((x : Int) + 1) = (y : Int) ∧ wrap64 ((x : Int) + 1) = (y : Int) := by
  subst h
  exact wr_nat hy
theorem wr_sub {x y z : Nat} (h : z + y = x) (hx : x ≤ 9223372036854775807) : IntKind.i64.wrap ((x : Int) - (y : Int)) = (z : Int) ∧ wrap64 ((x : Int) - (y : Int)) = (z : Int) := by
  have e : (x : Int) - (y : Int) = (z : Int) := by omega
  rw [e]
  exact wr_nat (by omega)
theorem wr_sub1 {x z : Nat} (h : z + 1 = x) (hx : x ≤ 9223372036854775807) : IntKind.i64.wrap ((x : Int) - 1) = (z : Int) ∧ wrap64 ((x : Int) - 1) = (z : Int) := by
  have e : (x : Int) - 1 = (z : Int) := by omega
  rw [e]
  exact wr_nat (by omega)
theorem mq_split_ok {Au : Option Addr} {cu : Nat} (O : Nat) (u : List Int) (hu : u.length ≤ cu) (hcu : cu ≤ 9223372036854775807) (h1 : msE (O : Int) u = 0) (w : World) (ru : Rd (Value.int .i64) w w.heap.size Au u) :
    Calls Try.prog 30 #[.int .i64 O, .slice Au u.length cu] w fun e w' => ∃ Az cz Aa ca, e = .returned (.tuple #[.agg #[.slice Az (O + 1) cz, .int .i64 O, .slice Aa O ca], .int .i64 0]) ∧ NetR w' (O : Int) u Az cz Aa ∧ Below w.heap.size w w' := by
  obtain ⟨⟨o1, o8⟩, ⟨m1, m16⟩, hdim⟩ := msE_ok.1 h1
  obtain ⟨U, hU⟩ : ∃ U, u.length = U := ⟨_, rfl⟩
  obtain ⟨m, hm⟩ : ∃ m, msN (O : Int) u = m := ⟨_, rfl⟩
  obtain ⟨n, hn⟩ : ∃ n, m + 1 = n := ⟨_, rfl⟩
  rw [hm] at m1 m16 hdim
  rw [hn, hU, Int.toNat_natCast] at hdim
  obtain ⟨a, ha⟩ : ∃ a, O * n = a := ⟨_, rfl⟩
  rw [ha] at hdim
  have ha136 : a ≤ 136 := by rw [← ha]; exact Nat.mul_le_mul (show O ≤ 8 by omega) (show n ≤ 17 by omega)
  have CH := hid (fun W => mq_hides (o := (O : Int)) (b := true) ⟨fun _ => ⟨o1, o8⟩, fun _ => rfl⟩ W)
  have CD := hid (fun W => ml_Dim (m : Int) (O : Int) (by unfold I64; omega) (by unfold I64; omega) W)
  have d1 : mdE (m : Int) (O : Int) = 0 := if_neg (by omega)
  have d2 : mdV (m : Int) (O : Int) = (U : Int) := by
    unfold mdV
    rw [if_pos d1, ← hdim, ← ha, ← hn]
    push_cast
    rfl
  obtain ⟨D, hD⟩ : ∃ D, U = D := ⟨_, rfl⟩
  have t0 : ((U : Int) != (D : Int)) = false := by rw [hD]; simp
  rw [d1, d2, hD] at CD
  clear hD
  have hO0 : (O : Int) ≠ 0 := by omega
  obtain ⟨o2, ho2⟩ : ∃ o2, O + 1 = o2 := ⟨_, rfl⟩
  have W3 : Hid ((a : Int).tdiv (O : Int) = (n : Int)) := hid (by
    rw [Int.tdiv_eq_ediv_of_nonneg (by omega), ← ha, Int.natCast_mul]
    exact Int.mul_ediv_cancel_left _ hO0)
  have WR := hid (And.intro (wr_add1 ho2 (by omega)) (And.intro (wr_sub (x := U) (y := o2) (z := a) (by omega) (by omega)) (And.intro (wr_nat (x := n) (by omega)) (And.intro (wr_sub1 hn (by omega)) (wr_add1 hn (by omega))))))
  obtain ⟨b, p, x0, rfl, hb, _, _⟩ := ru.at_ (k := 0) (by rw [hU]; omega)
  have hsl1 := fun W => run_from (P := Try.prog) 22 Try.underlying22 Try.sizeOf2 (some ⟨b, p, none⟩) U cu a (by omega) (by omega) W
  have hsl2 := fun W => run_upto (P := Try.prog) 22 Try.underlying22 Try.sizeOf2 (some ⟨b, p, none⟩) U cu a (by omega) W
  obtain ⟨Az, hAz⟩ : ∃ Az, cutA (some ⟨b, p, none⟩) a cu = Az := ⟨_, rfl⟩
  obtain ⟨cz, hcz⟩ : ∃ cz, cu - a = cz := ⟨_, rfl⟩
  rw [hAz, hcz, show U - a = o2 by omega] at hsl1
  rw [cut_0] at hsl2
  have hzz : mlZ (O : Int) u = u.drop a := by unfold mlZ; rw [hm, hn, Int.toNat_natCast, ha]
  have RZ := hid (fun (W : World) (hb : Below w.heap.size w W) => by
    have := (ru.on hb).cut a (c := cu) hu
    rw [hAz, ← hzz] at this
    exact this)
  have HZL : Hid ((mlZ (O : Int) u).length ≤ cz ∧ cz ≤ 9223372036854775807) := hid ⟨by rw [hzz, List.length_drop, hU]; omega, by omega⟩
  have CK := hid (fun W => sq_Chunk (A := some ⟨b, p, none⟩) (U := a) (c := cu) n (by omega) (by omega) W)
  obtain ⟨S, hS⟩ : ∃ S, w.heap.size = S := ⟨_, rfl⟩
  rw [hU]
  have HM := hid hm
  have HNN := hid hn
  have HA := hid ha
  have HO : Hid (1 ≤ O ∧ O ≤ 8 ∧ 2 ≤ n ∧ n ≤ 17) := hid (by omega)
  have H1 := hid h1
  have RU := hid ru
  have HCU := hid hcu
  have HAC : Hid (a ≤ cu) := hid (by omega)
  have HO2 := hid ho2
  clear o1 o8 m1 m16 hdim hU hm hn ha ha136 d1 d2 h1 hu hcu hzz hAz hcz ru ho2
  have w3 := W3.out
  obtain ⟨⟨w1, w1'⟩, ⟨w2, w2'⟩, ⟨w4, w4'⟩, ⟨w5, w5'⟩, w6, w6'⟩ := WR.out
  refine (callsIn_wide (n := 3)).1 ?_
  refine callsIn_of_wp_marks Try.func30 rfl trivial ?_ rfl
  simp only [Try.ntmps30, List.size_toArray, List.length_cons, List.length_nil, Nat.reduceAdd, Nat.reduceSub, Array.replicate_succ, Array.replicate_zero, List.push_toArray, List.append_toArray, List.nil_append, List.cons_append]
  refine wpIn_wide.2 ?_
  go_wp2_with fail
  refine (CH.out _).mono ?_
  rintro _ _ ⟨rfl, rfl⟩
  go_wp2_with fail
  refine (CD.out _).mono ?_
  rintro _ _ ⟨rfl, rfl⟩
  clear w1 w1' w2 w2' w3 w4 w4' w5 w5' CH CD hO0
  go_wp2_with fail
  obtain ⟨v1, hv1⟩ : ∃ v1, (((w.alloc (Obj.cells #[Value.slice none 0 0, Value.int IntKind.i64 0, Value.slice none 0 0] 55)).alloc (Obj.cells #[Value.int IntKind.i64 (m : Int)] 3)).alloc (Obj.cells #[Value.slice Az o2 cz, Value.int IntKind.i64 (O : Int), Value.slice none 0 0] 55)) = v1 := ⟨_, rfl⟩
  have hz1 : v1.heap.size = S + 3 := by rw [← hv1]; simp [hS]
  have B1 : Below S w v1 := by rw [← hv1, ← hS]; exact (((Below.refl _ w).alloc (Nat.le_refl _) _).alloc (by simp) _).alloc (by simp; omega) _
  have x2 : BoxL v1 (S + 2) [.slice Az o2 cz, .int .i64 O, .slice none 0 0] := by
    have h := BoxL.new ((w.alloc (Obj.cells #[Value.slice none 0 0, Value.int IntKind.i64 0, Value.slice none 0 0] 55)).alloc (Obj.cells #[Value.int IntKind.i64 (m : Int)] 3)) [.slice Az o2 cz, .int .i64 O, .slice none 0 0] 55
    rw [World.size_alloc, World.size_alloc, hS] at h
    rw [← hv1]; exact h
  have x1 : BoxL v1 (S + 1) [.int .i64 (m : Int)] := by
    have h := BoxL.new (w.alloc (Obj.cells #[Value.slice none 0 0, Value.int IntKind.i64 0, Value.slice none 0 0] 55)) [.int .i64 (m : Int)] 3
    rw [World.size_alloc, hS] at h
    rw [← hv1]; exact h.below (B := S + 2) ((Below.refl _ _).alloc (by simp [hS]) _) (by omega)
  have x0' : BoxL v1 S [.slice none 0 0, .int .i64 0, .slice none 0 0] := by
    have h := BoxL.new w [.slice none 0 0, .int .i64 0, .slice none 0 0] 55
    rw [hS] at h
    rw [← hv1]; exact h.below (B := S + 1) (((Below.refl _ _).alloc (by simp [hS]) _).alloc (by simp [hS]) _) (by omega)
  have c7 : v1.drew.cell? ⟨S + 1, 0, none⟩ = some (.int .i64 (m : Int)) := (x1 0 _ rfl).1
  have X2 := hid x2
  have X1 := hid x1
  have X0 := hid x0'
  have HB1 := hid B1
  have HV := hid hv1
  rw [hv1]
  have hzd : v1.drew.heap.size = S + 3 := hz1
  clear hv1 x2 x1 x0' B1
  clear hzd
  have c7' : v1.cell? ⟨S + 1, 0, none⟩ = some (.int .i64 (m : Int)) := c7
  go_still_tail 5, (by kernel_rfl)
  change wpList _ _ _ _ _ v1.drew
  generalize hv2 : v1.drew = v2
  have hz2 : v2.heap.size = S + 3 := by rw [← hv2]; exact hz1
  have X2' : Hid (BoxL v2 (S + 2) [.slice Az o2 cz, .int .i64 O, .slice none 0 0]) := hid (by rw [← hv2]; exact X2.out.drew)
  have X1' : Hid (BoxL v2 (S + 1) [.int .i64 (m : Int)]) := hid (by rw [← hv2]; exact X1.out.drew)
  have X0' : Hid (BoxL v2 S [.slice none 0 0, .int .i64 0, .slice none 0 0]) := hid (by rw [← hv2]; exact X0.out.drew)
  have B2 : Hid (Below S w v2) := hid (by rw [← hv2]; exact HB1.out.drew)
  clear hv2 c7 c7' hz1 X2 X1 X0 HB1 HV
  go_wp2_with fail
  refine (CK.out _).mono ?_
  rintro _ _ ⟨rfl, rfl⟩
  go_wp2_with fail
  obtain ⟨W0, hW0⟩ : ∃ W0, ((v2.alloc (Obj.cells #[Value.slice (some ⟨b, p, none⟩) a cu] 22)).alloc (Obj.cells #[Value.int IntKind.i64 (n : Int)] 3)) = W0 := ⟨_, rfl⟩
  have hz0 : W0.heap.size = S + 5 := by rw [← hW0]; simp [hz2]
  have HB0 : Below S w W0 := by rw [← hW0]; exact (B2.out.alloc (by omega) _).alloc (by simp; omega) _
  have g0 : Below (S + 3) v2 W0 := by rw [← hW0, ← hz2]; exact ((Below.refl _ v2).alloc (Nat.le_refl _) _).alloc (by simp) _
  have hc1 : W0.cell? ⟨S + 3, 0, none⟩ = some (.slice (some ⟨b, p, none⟩) a cu) := by rw [← hW0, ← hz2]; simp [go_sem]
  have hc2 : W0.cell? ⟨S + 4, 0, none⟩ = some (.int .i64 (n : Int)) := by rw [← hW0, show S + 4 = v2.heap.size + 1 by omega]; simp [go_sem]
  have h00 : NetAt S w (.slice Az o2 cz) (O : Int) (m : Int) [] W0 :=
    ⟨none, 0, (fun g e => by cases e), X2'.out.below g0 (by omega), X1'.out.below g0 (by omega), X0'.out.below g0 (by omega), OwnLn.nil _ _, by omega, HB0⟩
  have H00 := hid h00
  have HC1 := hid hc1
  have HC2 := hid hc2
  have HB00 := hid HB0
  have HV0 := hid hW0
  rw [hW0]
  clear h00 hc1 hc2 g0 hW0 X2' X1' X0' B2 hz2 CK HB0
  refine (wpIn_wide (n := 3)).1 ?_
  refine wpIn_rangeFunc_ownG (F := Fence.wide) (n := 3) rfl (by omega) (gf := 66) (lb := #[.pointer (some ⟨S + 3, 0, none⟩), .pointer (some ⟨S + 3 + 1, 0, none⟩)]) rfl trivial (enters_of Try.func66 (by kernel_rfl) rfl)
    (sq_stops (n := 3 - 1) (by omega) (Bs := S + 3) (Bn := S + 4) (O := O) (q := n) HA.out (by have := HO.out; omega) HAC.out HCU.out (w := W0) (by rw [hz0]; omega) (by rw [hz0]; omega) (by exact HC1.out) (by exact HC2.out))
    (fun h k => KpC.trans h k) (KpC.book (by rw [hz0]; omega) (by rw [hz0]; omega)) (Below.refl _ _) (fun _ => rfl)
    (fun pre W => NetAt S w (.slice Az o2 cz) (O : Int) (m : Int) (pre.map fun x => lnsL b p n m x.1) W) (fun _ _ _ => False)
    (fun (s : List (Nth O)) W W' row hs hg hr => NetAt.book (ls := s.map fun x => lnsL b p n m x.1) hs (by omega) hg (fun r e => ⟨by have := (hr r e).1; omega, (hr r e).2⟩)) (fun _ _ _ _ _ hs _ _ => hs) H00.out
    (fun x => { tmps := #[.int .i64 (O : Int), .slice (some ⟨b, p, none⟩) U cu, undef, undef, .pointer (some ⟨S, 0, none⟩), .int .i64 0, .int .i64 (a : Int), .pointer (some ⟨S + 1, 0, none⟩), .int .i64 (D : Int), .int .i64 0, .pointer (some ⟨S + 1 + 1, 0, none⟩), .slice (some ⟨b, p + x.1 * n, none⟩) n n, .int .i64 (O : Int), .bool true, .bool false, undef,
        .slice (some ⟨b, p, none⟩) U cu, .int .i64 (U : Int), .int .i64 (O : Int), .int .i64 (o2 : Int), .int .i64 (a : Int), .int .i64 (a : Int), .int .i64 (O : Int), .int .i64 (n : Int), .int .i64 (m : Int), .tuple #[.int .i64 (D : Int), .int .i64 0], .int .i64 (m : Int), .int .i64 (O : Int), .tuple #[.int .i64 (D : Int), .int .i64 0], .int .i64 (D : Int), .int .i64 0, .int .i64 0, .bool false, .bool false,
        .slice (some ⟨b, p, none⟩) U cu, .int .i64 (U : Int), .int .i64 (D : Int), .bool false, .bool false, undef, .slice (some ⟨b, p, none⟩) U cu, .int .i64 (a : Int), .slice Az o2 cz, .int .i64 (O : Int), .agg #[.slice Az o2 cz, .int .i64 (O : Int)], .agg #[.slice Az o2 cz, .int .i64 (O : Int), .slice none 0 0],
        .slice (some ⟨b, p, none⟩) U cu, .int .i64 (a : Int), .slice (some ⟨b, p, none⟩) a cu, .int .i64 (m : Int), .int .i64 (n : Int), .func (.func 66) #[] #[.pointer (some ⟨S + 3, 0, none⟩), .pointer (some ⟨S + 3 + 1, 0, none⟩)], .slice (some ⟨b, p + x.1 * n, none⟩) n n, undef, undef, undef, undef, undef, undef, undef, undef, undef], defers := [] }) ?assign ?body ?done ?stop
  case assign =>
    intro l x W K hK
    gi_wp2
    exact hK
  case body =>
    rintro l pre x W ⟨A2, c2, ha, h2, h3, h4, ho, hsz, hB⟩ hlt
    obtain ⟨zs, hzs⟩ : ∃ zs, (pre.map fun x => lnsL b p n m x.1) = zs := ⟨_, rfl⟩
    have hzl : zs.length = pre.length := by rw [← hzs, List.length_map]
    rw [hzs] at h2 ho
    have HZS := hid hzs
    clear hzs
    obtain ⟨⟨q0, q1, q2⟩, f0, f1, f2⟩ := h2.three
    have q3 := (h3 0 _ rfl).1
    have HEND := hid (fun A8 c8 w8 i1 i2 i3 i4 => net_round (S := S) (p := lnsL b p n m x.1) (t := 52) (c8 := c8) (A8 := A8) (w8 := w8) (Nat.le_of_eq hS.symm) ha h2 h3 h4 ho hsz hB i1 i2 i3 i4 W0.heap.size)
    obtain ⟨R, hR⟩ : ∃ R, zs.length = R := ⟨_, rfl⟩
    have HRO : Hid (R < O) := hid (by rw [← hR, hzl]; exact hlt)
    have HFAR := hid (fun (w8 : World) (hg8 : (W.alloc (.cells #[encS (lnsL b p n m x.1).1, .int .i64 (m : Int)] 52)).grownBy w8 (A2.map (·.block))) => (((h2.below ((Below.refl W.heap.size W).alloc (Nat.le_refl _) (.cells #[encS (lnsL b p n m x.1).1, .int .i64 (m : Int)] 52)) (by omega)).far hg8 (fun e => ha.ne (k := S + 2) (by omega) e.symm) (by simp; omega)).three))
    rw [hR] at q2
    have HRR := hid hR
    have HO7 := hid (ho.on ((Below.refl W.heap.size W).alloc (Nat.le_refl _) (.cells #[.slice (some ⟨b, p + x.1 * n, none⟩) n n, .int .i64 (m : Int)] 52)))
    have hbase : S ≤ (W.alloc (.cells #[.slice (some ⟨b, p + x.1 * n, none⟩) n n, .int .i64 (m : Int)] 52)).heap.size := by simp; omega
    have HBASE := hid hbase
    clear h2 h3 h4 ho hB hR hlt hS hz0 hsz ha hbase hzl
    gi_wp2_with (gi_at_builtin; refine wpListIn_appL _ rfl _ _ rfl (ls := zs) (by rw [HRR.out]; rfl) HO7.out _ _ rfl (lnsL b p n m x.1) (by simp [go_sem, lnsL, encS]) (by simp [go_sem, lnsL]) (by rw [HRR.out]; have := HRO.out; have := HO.out; omega) HBASE.out ?_)
    rintro A8 c8 w8 ho8 hb8 hg8 hq8
    obtain ⟨⟨_, _, q2'⟩, _, _, f2'⟩ := HFAR.out w8 hg8
    rw [HRR.out] at q2' ⊢
    have HO8 := hid ho8
    have HB8 := hid hb8
    have HG8 := hid hg8
    have HQ8 := hid hq8
    clear ho8 hb8 hg8 hq8 q0 q1 q2 q3 f0 f1 f2
    gi_wp2_with fail
    obtain ⟨z1, z2, z3⟩ := HEND.out A8 c8 w8 HO8.out HB8.out HG8.out (by rw [World.size_alloc]; exact HQ8.out)
    rw [HRR.out] at z1 z2 z3
    have z4 : NetAt S w (.slice Az o2 cz) (O : Int) (m : Int) ((pre ++ [x]).map fun x => lnsL b p n m x.1) (w8.setCell ⟨S + 2, 2, none⟩ (.slice A8 (R + 1) c8)) := by rw [List.map_append, List.map_singleton, HZS.out]; exact z3
    exact And.intro z1 (And.intro z2 z4)
  case done =>
    rintro D1 ys W hD hys ⟨A2, c2, ha, h2, h3, h4, ho, hsz, hB⟩ hK
    obtain ⟨⟨q0, q1, q2⟩, f0, f1, f2⟩ := h2.three
    obtain ⟨⟨r0, r1, r2⟩, g0, g1, g2⟩ := h4.three
    obtain ⟨ls, hls⟩ : ∃ ls, (ys.map fun x => lnsL b p n m x.1) = ls := ⟨_, rfl⟩
    have hle : ls = (List.range O).map (lnsL b p n m) := by rw [← hls, ← hys, List.map_map]; rfl
    have hll : ls.length = O := by rw [hle, List.length_map, List.length_range]
    rw [hls, hll] at q2
    have HLE := hid hle
    rw [hls] at ho
    have HOW := hid ho
    have HA2 := hid (ha.ne (k := S) (by omega))
    have HBX := hid h4
    have HBB := hid hB
    have HDD := hid hD
    have HSZ := hid hz0
    have HSS := hid hS
    clear ho ha h2 h3 h4 hB hD hz0 hS hls hle hll hys
    go_wp2_with fail
    obtain ⟨W2, hW2⟩ : ∃ W2, (((W.setCell ⟨S, 0, none⟩ (.slice Az o2 cz)).setCell ⟨S, 1, none⟩ (.int .i64 O)).setCell ⟨S, 2, none⟩ (.slice A2 O c2)) = W2 := ⟨_, rfl⟩
    have y0 := ((HBX.out.one (k := 0) rfl (.slice Az o2 cz)).one (k := 1) (v := .int .i64 0) rfl (.int .i64 O)).one (k := 2) (v := .slice none 0 0) rfl (.slice A2 O c2)
    have hK2 : W2.heap[D1]? = some (.deferred (some [])) := by rw [← hW2]; exact (KeepsOthers.setCell _ _ _).same D1 _ ((KeepsOthers.setCell _ _ _).same D1 _ ((KeepsOthers.setCell _ _ _).same D1 _ hK rfl) rfl) rfl
    have hbk : ∀ r, some D1 = some r → ∃ o : Obj, W2.heap[r]? = some o ∧ o.isCells = false := fun r e => by cases e; exact ⟨_, hK2, rfl⟩
    have y3 := ((HOW.out.set (p := ⟨S, 0, none⟩) HA2.out (.slice Az o2 cz)).set (p := ⟨S, 1, none⟩) HA2.out (.int .i64 O)).set (p := ⟨S, 2, none⟩) HA2.out (.slice A2 O c2)
    have y4 : Below S w (((W.setCell ⟨S, 0, none⟩ (.slice Az o2 cz)).setCell ⟨S, 1, none⟩ (.int .i64 O)).setCell ⟨S, 2, none⟩ (.slice A2 O c2)) := ((HBB.out.setCell (p := ⟨S, 0, none⟩) (Nat.le_refl S) _).setCell (p := ⟨S, 1, none⟩) (Nat.le_refl S) _).setCell (p := ⟨S, 2, none⟩) (Nat.le_refl S) _
    rw [hW2] at y0 y3 y4
    rw [hW2]
    have y5 := fun o => y4.grown (grownBy_putObj' W2 D1 o) (by have := HSS.out; have := y4.size; omega) (fun k e => by cases e; have := HDD.out; have := HSZ.out; omega)
    refine ⟨by simp, .inl ⟨_, _, rfl, run_takeDeferred hK2, ?_⟩⟩
    refine ⟨_, net_res (p := S) rfl rfl (y0.book (grownBy_putObj' W2 D1 _) hbk) rfl rfl rfl, ?_⟩
    have y6 := fun o => y3.book (grownBy_putObj' W2 D1 o) hbk
    rw [HLE.out, ← HSS.out] at y6
    rw [← HSS.out] at y5
    exact ⟨Az, cz, A2, c2, by rw [HO2.out], ⟨RZ.out _ (y5 _), HZL.out.1, HZL.out.2, net_rd H1.out HM.out HNN.out (y6 _) (y5 _) RU.out⟩, y5 _⟩
  case stop =>
    rintro D c pre W _ _ h _
    exact h.elim
theorem box_a (w : World) (a b c : Value) (t : TypeId) : BoxL (w.alloc (.cells #[a, b, c] t)) w.heap.size [a, b, c] := BoxL.new w [a, b, c] t
theorem box_ab (w : World) (a b c : Value) (t : TypeId) (o : Obj) : BoxL ((w.alloc (.cells #[a, b, c] t)).alloc o) w.heap.size [a, b, c] :=
  (box_a w a b c t).below (B := w.heap.size + 1) ((Below.refl _ _).alloc (by simp) _) (by omega)
theorem mq_split_bad {Au : Option Addr} {cu : Nat} (o : Int) (io : I64 o) (u : List Int) (hu : u.length ≤ cu) (hcu : cu ≤ 9223372036854775807) (h1 : msE o u ≠ 0) (w : World) :
    Calls Try.prog 30 #[.int .i64 o, .slice Au u.length cu] w fun e w' => e = .returned (.tuple #[.agg #[.slice none 0 0, .int .i64 0, .slice none 0 0], .int .i64 (msE o u)]) ∧ Below w.heap.size w w' := by
  obtain ⟨U, hU⟩ : ∃ U, u.length = U := ⟨_, rfl⟩
  obtain ⟨S, hS⟩ : ∃ S, w.heap.size = S := ⟨_, rfl⟩
  by_cases h2 : 1 ≤ o ∧ o ≤ 8
  · have CH := hid (fun W => mq_hides (o := o) (b := true) ⟨fun _ => h2, fun _ => rfl⟩ W)
    have e1 : msE o u = 4 := by
      unfold msE at h1 ⊢
      rw [if_neg (by omega)] at h1 ⊢
      by_cases h : 1 ≤ msN o u ∧ msN o u ≤ 16 ∧ o.toNat * (msN o u + 1) + o.toNat + 1 = u.length
      · rw [if_pos h] at h1; exact absurd rfl h1
      · rw [if_neg h]
    rw [e1]
    obtain ⟨q, hq⟩ : ∃ q, ((U : Int) - (o + 1)) = q := ⟨_, rfl⟩
    obtain ⟨d, hd⟩ : ∃ d, q.tdiv o = d := ⟨_, rfl⟩
    obtain ⟨p, hp⟩ : ∃ p, d - 1 = p := ⟨_, rfl⟩
    obtain ⟨o2, ho2⟩ : ∃ o2, o + 1 = o2 := ⟨_, rfl⟩
    have hqr : -9 ≤ q ∧ q ≤ 9223372036854775807 := by omega
    have hdr : -9 ≤ d ∧ d ≤ 9223372036854775807 := by
      have h3 : d.natAbs ≤ q.natAbs := by rw [← hd, Int.natAbs_tdiv]; exact Nat.div_le_self _ _
      have h4 : 0 ≤ q → 0 ≤ d := fun h => by rw [← hd]; exact Int.tdiv_nonneg h (by omega)
      omega
    have hne : mdE p o ≠ 0 ∨ (U : Int) ≠ mdV p o := by
      by_cases h3 : mdE p o = 0
      · refine .inr fun h4 => h1 ?_
        have h5 : 1 ≤ p ∧ p ≤ 16 := by
          unfold mdE at h3
          by_cases h : p < 1 ∨ 16 < p ∨ o < 1 ∨ 8 < o
          · rw [if_pos h] at h3; exact absurd h3 (by decide)
          · omega
        obtain ⟨k, rfl⟩ : ∃ k : Nat, p = (k : Int) := ⟨p.toNat, by omega⟩
        have h6 := (ms_dim (i := k) h2.1 h2.2 (by omega) (by omega)).2
        rw [h6] at h4
        exact (ms_some (i := k) h2.1 h2.2 (by omega) (by omega) (by rw [hU]; omega)).1
      · exact .inl h3
    have CD := hid (fun W => ml_Dim p o (by unfold I64; omega) io W)
    have W1 := hid (And.intro (show IntKind.i64.wrap (o + 1) = o2 by rw [ho2]; exact Go.IntWalk.i64_in _ (by omega)) (show wrap64 (o + 1) = o2 by rw [ho2]; exact Go.IntWalk.wrap64_in _ (by omega)))
    have W2 := hid (And.intro (show IntKind.i64.wrap ((U : Int) - o2) = q by rw [← ho2, hq]; exact Go.IntWalk.i64_in _ (by omega)) (show wrap64 ((U : Int) - o2) = q by rw [← ho2, hq]; exact Go.IntWalk.wrap64_in _ (by omega)))
    have W3 := hid (And.intro (show IntKind.i64.wrap d = d from Go.IntWalk.i64_in _ (by omega)) (show wrap64 d = d from Go.IntWalk.wrap64_in _ (by omega)))
    have W4 := hid (And.intro (show IntKind.i64.wrap (d - 1) = p by rw [hp]; exact Go.IntWalk.i64_in _ (by omega)) (show wrap64 (d - 1) = p by rw [hp]; exact Go.IntWalk.wrap64_in _ (by omega)))
    have ho0 : o ≠ 0 := by omega
    have HS := hid hS
    rw [hU]
    obtain ⟨D, hD⟩ : ∃ D, mdV p o = D := ⟨_, rfl⟩
    obtain ⟨E, hE⟩ : ∃ E, mdE p o = E := ⟨_, rfl⟩
    rw [hD, hE] at CD hne
    clear e1 h1 h2 hp hq ho2 hqr hdr hD hE hu hcu hU
    obtain ⟨a1, a2⟩ := W1.out
    obtain ⟨b1, b2⟩ := W2.out
    obtain ⟨c1, c2⟩ := W3.out
    obtain ⟨d1, d2⟩ := W4.out
    by_cases hE0 : E = 0
    · subst hE0
      have t0 : ((U : Int) != D) = true := by
        rw [bne_iff_ne]
        rcases hne with h | h
        · exact absurd rfl h
        · exact h
      clear hne
      refine (callsIn_wide (n := 3)).1 ?_
      refine callsIn_of_wp_marks Try.func30 rfl trivial ?_ rfl
      simp only [Try.ntmps30, List.size_toArray, List.length_cons, List.length_nil, Nat.reduceAdd, Nat.reduceSub, Array.replicate_succ, Array.replicate_zero, List.push_toArray, List.append_toArray, List.nil_append, List.cons_append]
      refine wpIn_wide.2 ?_
      go_wp2_with fail
      refine (CH.out _).mono ?_
      rintro _ _ ⟨rfl, rfl⟩
      go_wp2_with fail
      refine (CD.out _).mono ?_
      rintro _ _ ⟨rfl, rfl⟩
      clear a1 a2 b1 b2 c1 c2 d1 d2 hd
      go_wp2_with fail
      refine ⟨_, net_res (p := S) rfl rfl (by rw [← hS]; exact box_ab _ _ _ _ _ _) rfl rfl rfl, rfl, ?_⟩
      go_grown
    · have hne2 : (E != 0) = true := by simpa using hE0
      clear hne hE0
      refine (callsIn_wide (n := 3)).1 ?_
      refine callsIn_of_wp_marks Try.func30 rfl trivial ?_ rfl
      simp only [Try.ntmps30, List.size_toArray, List.length_cons, List.length_nil, Nat.reduceAdd, Nat.reduceSub, Array.replicate_succ, Array.replicate_zero, List.push_toArray, List.append_toArray, List.nil_append, List.cons_append]
      refine wpIn_wide.2 ?_
      go_wp2_with fail
      refine (CH.out _).mono ?_
      rintro _ _ ⟨rfl, rfl⟩
      go_wp2_with fail
      refine (CD.out _).mono ?_
      rintro _ _ ⟨rfl, rfl⟩
      clear a1 a2 b1 b2 c1 c2 d1 d2 hd
      go_wp2_with fail
      refine ⟨_, net_res (p := S) rfl rfl (by rw [← hS]; exact box_ab _ _ _ _ _ _) rfl rfl rfl, rfl, ?_⟩
      go_grown
  · have CH := hid (fun W => mq_hides (o := o) (b := false) ⟨fun h => (by cases h), fun h => absurd h h2⟩ W)
    have e1 : msE o u = 1 := if_pos (by omega)
    rw [e1, hU]
    clear e1 h1 h2 hU hu hcu
    refine (callsIn_wide (n := 3)).1 ?_
    refine callsIn_of_wp_marks Try.func30 rfl trivial ?_ rfl
    simp only [Try.ntmps30, List.size_toArray, List.length_cons, List.length_nil, Nat.reduceAdd, Nat.reduceSub, Array.replicate_succ, Array.replicate_zero, List.push_toArray, List.append_toArray, List.nil_append, List.cons_append]
    refine wpIn_wide.2 ?_
    go_wp2_with fail
    refine (CH.out _).mono ?_
    rintro _ _ ⟨rfl, rfl⟩
    go_wp2_with fail
    refine ⟨_, net_res (p := S) rfl rfl (by rw [← hS]; exact box_a _ _ _ _ _) rfl rfl rfl, rfl, ?_⟩
    go_grown
end Go.Proofs.Ytekpejemfkjhcaa
