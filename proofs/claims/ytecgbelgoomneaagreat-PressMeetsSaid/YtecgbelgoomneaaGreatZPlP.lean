
/- ZPlP: texts joined: PlP. -/
import Derived.Test.YtecgbelgoomneaaGreatZd
import Derived.Deep.RegionWith
/- The program's numbers read, each bit where a function value tells; signs read. -/
namespace Go.Proofs.YtecgbelgoomneaaGreat
open Go.RowKit
set_option maxHeartbeats 400000
set_option maxRecDepth 100000
set_option linter.unusedVariables false
def rdV (wd many : Int) (b : List Int) (pl : Nat → Nat → Nat) : List Int := if bitE wd many b = 0 then (List.range many.toNat).map (fun i => nmF wd.toNat fun j => fB b (pl i j)) else []
theorem b2_le (v : Bool) : 0 ≤ b2 v ∧ b2 v ≤ 1 := by cases v <;> decide
set_option maxHeartbeats 2000000 in
theorem pl_read {A : Option Addr} {c : Nat} (K : FuncId) (caps : Array Value) (wd many : Int) (b : List Int) (hw : I64 wd) (hm : I64 many) (hl : b.length ≤ 100000) (ub : U8s b) (w : World) (ra : Rd (Value.int .u8) w w.heap.size A b)
   (hK : ∀ (args : Array Value) (W : World), (callFunc K args).run Tryz.prog W = .ok (.enter K args) W) (pl : Nat → Nat → Nat)
   (HPn : ∀ i j, i < many.toNat → j < wd.toNat → pl i j < wd.toNat * many.toNat)
   (HC : bysE wd many = 0 → ∀ i j, i < many.toNat → j < wd.toNat → ∀ W, Below w.heap.size w W → Calls Tryz.prog K (#[.int .i64 (i : Int), .int .i64 (j : Int)] ++ caps) W fun e w' => e = .returned (.int .i64 (pl i j : Int)) ∧ W = w') :
    Calls Tryz.prog 233 #[.int .i64 wd, .int .i64 many, .slice A b.length c, .func (.func K) #[] caps] w (OwnE 25 .u64 w.heap.size (rdV wd many b pl) (bitE wd many b) w) := by
  have CB := hid (fun W => pl_Bytes wd many hw hm W)
  by_cases h0 : bysE wd many = 0
  · have hwm := bys_ok h0
    have HC := HC h0
    obtain ⟨k, rfl⟩ := Int.eq_ofNat_of_zero_le hwm.1.1
    obtain ⟨m, rfl⟩ := Int.eq_ofNat_of_zero_le hwm.2.1
    rw [Int.toNat_natCast, Int.toNat_natCast] at HC HPn
    have hk : k ≤ 32 := by omega
    have hm4 : m ≤ 4096 := by omega
    have hkm : k * m ≤ 131072 := by
      have := Nat.mul_le_mul hk hm4
      omega
    have hbv := bys_nat h0
    rw [h0] at CB
    rw [hbv] at CB
    by_cases hlen : b.length = (k * m + 7) / 8
    · have hN8 : k * m ≤ 8 * b.length := by omega
      have hb4 : bitE (k : Int) (m : Int) b = if tlB (k * m) b = true then 0 else 6 := by
        unfold bitE
        rw [if_pos h0, hbv, if_pos (by omega), Int.toNat_natCast, Int.toNat_natCast]
      have CLf := hid (pl_left (A := A) (c := c) b hl ub (k * m) hN8 w ra)
      rw [← hlen] at CB
      by_cases ht : tlB (k * m) b = true
      · rw [if_pos ht] at hb4
        rw [ht] at CLf
        have hV : rdV k m b pl = (List.range m).map (fun i => nmF k fun j => fB b (pl i j)) := by unfold rdV; rw [if_pos hb4, Int.toNat_natCast, Int.toNat_natCast]
        rw [hb4, hV]
        obtain ⟨N, hN⟩ : ∃ N, k * m = N := ⟨_, rfl⟩
        have hmul : (k : Int) * (m : Int) = (N : Int) := by rw [← hN, Int.natCast_mul]
        rw [hN] at CLf HPn hkm hN8
        have CO : Hid (∀ W, Rd (Value.int .u8) W W.heap.size A b → ∀ p, p < N → Calls Tryz.prog 250 #[.slice A b.length c, .int .i64 (p : Int)] W fun e w' => e = .returned (.int .u8 (b2 (fB b p))) ∧ ∃ n, w' = W.drewN n) := hid (fun W hW p hp => pl_one b hl ub p (by omega) W hW)
        obtain ⟨f, hf⟩ : ∃ f, fB b = f := ⟨_, rfl⟩
        rw [hf] at CO ⊢
        have hmk := fun W => run_make_row' (P := Tryz.prog) 29 25 (.int .u64 0) 8 Tryz.underlying29 info_u64 rfl .i64 .i64 m (by omega) (by omega) W
        have HCl := hid HC
        have HPl := hid HPn
        have RA := hid ra
        obtain ⟨L, hL⟩ : ∃ L, b.length = L := ⟨_, rfl⟩
        rw [hL] at CB CLf CO hl hN8 ⊢
        clear h0 hbv hlen hb4 ht hV hN HC HPn hf ra ub hL hw hm hwm
        go_enter Tryz.func233, Tryz.ntmps233
        go_wp2_with fail
        refine (CB.out _).mono ?_
        rintro _ _ ⟨rfl, rfl⟩
        go_wp2_with fail
        refine CLf.out.mono ?_
        rintro _ w1 ⟨rfl, n0, hw1⟩
        have k1 : Below w.heap.size w w1 := by rw [hw1]; exact belowN _ _ n0
        have HK := hid k1
        have RA1 := hid (RA.out.on k1)
        have HC1 : Hid (∀ i j, i < m → j < k → ∀ W, Below w1.heap.size w1 W → Calls Tryz.prog K (#[.int .i64 (i : Int), .int .i64 (j : Int)] ++ caps) W fun e w' => e = .returned (.int .i64 (pl i j : Int)) ∧ W = w') := hid (fun i j hi hj W hW => HCl.out i j hi hj W (k1.trans (hW.mono k1.size)))
        clear hw1 k1 CB CLf HCl RA
        go_wp2_with fail
        go_loopw [13, 14, 40] (fun i0 j0 i wr => ∃ n : Nat, n ≤ m ∧ i = .int .i64 n ∧ wr.rowIs w1.heap.size 25 m (fun j => .int .u64 (if j < n then nmF k (fun t => f (pl j t)) else 0)) ∧ Below w1.heap.size w1 wr) (fun _ _ i _ => m - (intOf i).toNat)
        case atStart => exact ⟨0, by omega, rfl, by simpa using World.rowIs_made w1 (.int .u64 0) m _, by go_grown⟩
        case round =>
          obtain ⟨n, hn, rfl, hrow, hbel⟩ := hrel
          have HR := hid hrow
          clear hmk hrow
          by_cases hlt : n < m
          · have HROW : Hid (wr.rowIs w1.heap.size 25 m (fun j => .int .u64 (if j = n then nmF 0 (fun t => f (pl n t)) else if j < n then nmF k (fun t => f (pl j t)) else 0))) := hid (HR.out.congr fun j hj => by
              by_cases e : j = n
              · rw [if_pos e, if_neg (by omega)]; rfl
              · rw [if_neg e])
            clear HR
            go_wp2_with fail
            go_loopw [14, 44] (fun j0 s wr => ∃ t : Nat, t ≤ k ∧ s = .int .i64 t ∧ wr.rowIs w1.heap.size 25 m (fun j => .int .u64 (if j = n then nmF t (fun t => f (pl n t)) else if j < n then nmF k (fun t => f (pl j t)) else 0)) ∧ Below w1.heap.size w1 wr) (fun _ s _ => k - (intOf s).toNat)
            case atStart => exact ⟨0, by omega, rfl, HROW.out, hbel⟩
            case round =>
              clear HROW hbel
              obtain ⟨t, ht, rfl, hrow, hbel⟩ := hrel
              have HR := hid hrow
              by_cases htl : t < k
              · have f1 := hrow.frozen n
                have c2 := hrow.cell hlt
                rw [if_pos rfl] at c2
                have hyb := nmF_32 (t := t) (k := k) ht hk (fun t => f (pl n t))
                have HZ : nmF (t + 1) (fun t => f (pl n t)) = 2 * nmF t (fun t => f (pl n t)) + if f (pl n t) = true then 1 else 0 := rfl
                obtain ⟨y, hy⟩ : ∃ y, nmF t (fun t => f (pl n t)) = y := ⟨_, rfl⟩
                rw [hy] at c2 hyb HZ
                have hPn := HPl.out n t hlt htl
                have C1 := hid (fun W hW => HC1.out n t hlt htl W hW)
                obtain ⟨P, hP⟩ : ∃ P, pl n t = P := ⟨_, rfl⟩
                rw [hP] at hPn C1 HZ
                have CO1 := hid (fun W hW => CO.out W hW P hPn)
                have e1 := or_u64 (y := y) hyb.1 hyb.2 (f P)
                rw [← HZ] at e1
                have hRb := b2_le (f P)
                obtain ⟨R, hR⟩ : ∃ R, b2 (f P) = R := ⟨_, rfl⟩
                rw [hR] at CO1 e1 hRb
                obtain ⟨Z, hZ⟩ : ∃ Z, nmF (t + 1) (fun t => f (pl n t)) = Z := ⟨_, rfl⟩
                rw [hZ] at e1
                have HZ' := hid hZ
                have HRd : Hid (∀ a, (wr.drewN a).rowIs w1.heap.size 25 m (fun j => .int .u64 (if j = n then nmF t (fun t => f (pl n t)) else if j < n then nmF k (fun t => f (pl j t)) else 0))) := hid (fun a => HR.out)
                clear HZ hZ hR hP hy hrow HR
                go_wp2_with fail
                go_region_with (first
                  | (go_at_call 250; refine (CO1.out _ ?_).mono ?_; exact (RA1.out.on hbel.drew); rintro _ _ ⟨rfl, m2, rfl⟩)
                  | (with_reducible refine (C1.out _ ?_).mono ?_; exact hbel.drew; rintro _ _ ⟨rfl, rfl⟩))
                all_goals
                  go_wp2_with fail
                  go_roundw
                  case rel =>
                    refine ⟨t + 1, by omega, by go_num, ?_, (hbel.trans (belowN _ _ _)).setCell (Nat.le_refl _) _⟩
                    rw [e1]
                    refine ((HRd.out _).set n (.int .u64 Z)).congr fun j hj => ?_
                    by_cases e : j = n
                    · rw [if_pos e, if_pos e, HZ'.out]
                    · rw [if_neg e, if_neg e, if_neg e]
                  case measure => simp [intOf]; omega
              · obtain rfl : t = k := by omega
                have HN2 : Hid (wr.rowIs w1.heap.size 25 m (fun j => .int .u64 (if j < n + 1 then nmF t (fun s => f (pl j s)) else 0))) := hid (HR.out.congr fun j hj => by
                  by_cases e : j = n
                  · rw [if_pos e, if_pos (by omega), e]
                  · rw [if_neg e]
                    by_cases e2 : j < n
                    · rw [if_pos e2, if_pos (by omega)]
                    · rw [if_neg e2, if_neg (by omega)])
                clear hrow HR
                go_wp2_with fail
                go_roundw
                case rel => exact ⟨n + 1, by omega, by go_num, HN2.out, hbel⟩
                case measure => simp [intOf]; omega
          · obtain rfl : n = m := by omega
            have k1 := HK.out
            go_wp2_with fail
            go_ret2
            have h := own_made (w' := wr) HR.out (show w.heap.size ≤ w1.heap.size from k1.size) (by unfold maxLen; omega)
            refine ⟨some ⟨w1.heap.size, 0, none⟩, n, ?_, ?_, k1.trans (hbel.mono k1.size)⟩
            · rw [List.length_map, List.length_range]; rfl
            · rw [List.length_map, List.length_range, List.map_map]
              have e : (List.range n).map (Value.int .u64 ∘ fun i => nmF k fun t => f (pl i t)) = (List.range n).map (fun j => .int .u64 (if j < n then nmF k (fun t => f (pl j t)) else 0)) := List.map_congr_left fun j hj => by
                have := List.mem_range.1 hj
                show Value.int .u64 _ = _
                rw [if_pos this]
              rw [e]
              exact h
      · have ht2 : tlB (k * m) b = false := by simpa using ht
        rw [if_neg ht] at hb4
        rw [ht2] at CLf
        have hV : rdV k m b pl = [] := by unfold rdV; rw [if_neg (by rw [hb4]; decide)]
        rw [hb4, hV]
        obtain ⟨N, hN⟩ : ∃ N, k * m = N := ⟨_, rfl⟩
        have hmul : (k : Int) * (m : Int) = (N : Int) := by rw [← hN, Int.natCast_mul]
        rw [hN] at CLf hkm
        clear h0 hbv hlen hb4 ht ht2 hV hN HC HPn ra ub hw hm hwm hN8
        go_enter Tryz.func233, Tryz.ntmps233
        go_wp2_with fail
        refine (CB.out _).mono ?_
        rintro _ _ ⟨rfl, rfl⟩
        go_wp2_with fail
        refine CLf.out.mono ?_
        rintro _ _ ⟨rfl, n0, rfl⟩
        go_wp2_with fail
        go_ret2
        exact .nil (belowN _ _ n0)
    · have hb4 : bitE (k : Int) (m : Int) b = 4 := by
        unfold bitE
        rw [if_pos h0, hbv, if_neg (by omega)]
      have hV : rdV k m b pl = [] := by unfold rdV; rw [if_neg (by rw [hb4]; decide)]
      rw [hb4, hV]
      obtain ⟨S, hS⟩ : ∃ S, (k * m + 7) / 8 = S := ⟨_, rfl⟩
      rw [hS] at CB hlen
      have hne : ((b.length : Int) != (S : Int)) = true := by simp; omega
      have hne2 : (b.length != S) = true := by simpa using hlen
      clear h0 hbv hb4 hV hS HC HPn ra ub hw hm hwm hlen
      go_enter Tryz.func233, Tryz.ntmps233
      go_wp2_with fail
      refine (CB.out _).mono ?_
      rintro _ _ ⟨rfl, rfl⟩
      go_wp2_with fail
      go_ret2
      exact .nil (Below.refl _ _)
  · have hM : bitE wd many b = bysE wd many := if_neg h0
    have hV : rdV wd many b pl = [] := by unfold rdV; rw [if_neg (by rw [hM]; exact h0)]
    rw [hM, hV]
    obtain ⟨E, hE⟩ : ∃ E, bysE wd many = E := ⟨_, rfl⟩
    obtain ⟨V, hVe⟩ : ∃ V, bysV wd many = V := ⟨_, rfl⟩
    rw [hE] at CB h0 ⊢
    rw [hVe] at CB
    have hne : (E != 0) = true := by simpa using h0
    clear hM hV h0 hE hVe HC HPn ra ub hw hm
    go_enter Tryz.func233, Tryz.ntmps233
    go_wp2_with fail
    refine (CB.out _).mono ?_
    rintro _ _ ⟨rfl, rfl⟩
    go_wp2_with fail
    go_ret2
    exact .nil (Below.refl _ _)
theorem pl_Unpack {A : Option Addr} {c : Nat} (wd many : Int) (b : List Int) (hw : I64 wd) (hm : I64 many) (hl : b.length ≤ 100000) (ub : U8s b) (w : World) (ra : Rd (Value.int .u8) w w.heap.size A b) :
    Calls Tryz.prog 234 #[.int .i64 wd, .int .i64 many, .slice A b.length c] w (OwnE 25 .u64 w.heap.size (upkV wd many b) (bitE wd many b) w) := by
  have CW : Hid (∀ w1 : World, w1.cell? ⟨w.heap.size, 0, none⟩ = some (.int .i64 wd) → w.heap.size < w1.heap.size → Below w.heap.size w w1 →
      Calls Tryz.prog 233 #[.int .i64 wd, .int .i64 many, .slice A b.length c, .func (.func 248) #[] #[.pointer (some ⟨w.heap.size, 0, none⟩)]] w1 (OwnE 25 .u64 w1.heap.size (upkV wd many b) (bitE wd many b) w1)) := hid (fun w1 hc hlt hb => by
    refine pl_read (A := A) (c := c) 248 _ wd many b hw hm hl ub w1 (ra.on hb) (cl_enter _ (by kernel_rfl)) (fun i j => i * wd.toNat + j) (fun i j hi hj => place_lt hi hj) (fun h0 i j hi hj W hW => ?_)
    have hwm := bys_ok h0
    obtain ⟨k, rfl⟩ := Int.eq_ofNat_of_zero_le hwm.1.1
    rw [Int.toNat_natCast] at hj ⊢
    exact side_cl ((hW.cell (p := ⟨w.heap.size, 0, none⟩) hlt).trans hc) rfl (place_few hi hj (by omega) (by omega)))
  obtain ⟨X, hX⟩ : ∃ X, upkV wd many b = X := ⟨_, rfl⟩
  obtain ⟨E, hE⟩ : ∃ E, bitE wd many b = E := ⟨_, rfl⟩
  rw [hX, hE] at CW ⊢
  have CS := hid (pl_side wd w)
  clear hX hE ra ub
  go_enter Tryz.func234, Tryz.ntmps234
  go_wp2_with fail
  refine CS.out.mono ?_
  rintro _ w1 ⟨rfl, hc1, hlt1, hb1⟩
  have CW1 := hid (CW.out w1 hc1 hlt1 hb1)
  clear hc1 hlt1
  go_wp2_with fail
  refine CW1.out.mono ?_
  rintro _ w2 ⟨A2, c2, rfl, ho, hb2⟩
  have HO := hid (own_base ho hb1.size)
  clear ho
  go_wp2_with fail
  go_ret2
  exact ⟨A2, c2, rfl, HO.out, hb1.trans (hb2.mono hb1.size)⟩
theorem pl_Unweave {A : Option Addr} {c : Nat} (wd many : Int) (b : List Int) (hw : I64 wd) (hm : I64 many) (hl : b.length ≤ 100000) (ub : U8s b) (w : World) (ra : Rd (Value.int .u8) w w.heap.size A b) :
    Calls Tryz.prog 222 #[.int .i64 wd, .int .i64 many, .slice A b.length c] w (OwnE 25 .u64 w.heap.size (uwvV wd many b) (bitE wd many b) w) := by
  have CW : Hid (∀ w1 : World, w1.cell? ⟨w.heap.size, 0, none⟩ = some (.int .i64 many) → w.heap.size < w1.heap.size → Below w.heap.size w w1 →
      Calls Tryz.prog 233 #[.int .i64 wd, .int .i64 many, .slice A b.length c, .func (.func 216) #[] #[.pointer (some ⟨w.heap.size, 0, none⟩)]] w1 (OwnE 25 .u64 w1.heap.size (uwvV wd many b) (bitE wd many b) w1)) := hid (fun w1 hc hlt hb => by
    refine pl_read (A := A) (c := c) 216 _ wd many b hw hm hl ub w1 (ra.on hb) (cl_enter _ (by kernel_rfl)) (fun i j => j * many.toNat + i) (fun i j hi hj => by rw [Nat.mul_comm wd.toNat]; exact place_lt hj hi) (fun h0 i j hi hj W hW => ?_)
    have hwm := bys_ok h0
    obtain ⟨m, rfl⟩ := Int.eq_ofNat_of_zero_le hwm.2.1
    rw [Int.toNat_natCast] at hi ⊢
    exact plane_cl ((hW.cell (p := ⟨w.heap.size, 0, none⟩) hlt).trans hc) rfl (few_place hi hj (by omega) (by omega)))
  obtain ⟨X, hX⟩ : ∃ X, uwvV wd many b = X := ⟨_, rfl⟩
  obtain ⟨E, hE⟩ : ∃ E, bitE wd many b = E := ⟨_, rfl⟩
  rw [hX, hE] at CW ⊢
  have CS := hid (pl_planes many w)
  clear hX hE ra ub
  go_enter Tryz.func222, Tryz.ntmps222
  go_wp2_with fail
  refine CS.out.mono ?_
  rintro _ w1 ⟨rfl, hc1, hlt1, hb1⟩
  have CW1 := hid (CW.out w1 hc1 hlt1 hb1)
  clear hc1 hlt1
  go_wp2_with fail
  refine CW1.out.mono ?_
  rintro _ w2 ⟨A2, c2, rfl, ho, hb2⟩
  have HO := hid (own_base ho hb1.size)
  clear ho
  go_wp2_with fail
  go_ret2
  exact ⟨A2, c2, rfl, HO.out, hb1.trans (hb2.mono hb1.size)⟩
theorem upk_one {many : Int} {b : List Int} (h : bitE 1 many b = 0) : upkV 1 many b = (List.range many.toNat).map fun i => b2 (fB b i) := by
  unfold upkV
  rw [if_pos h]
  refine List.map_congr_left fun i _ => ?_
  show 2 * nmF 0 _ + (if fB b (i * 1 + 0) = true then 1 else 0) = _
  rw [nmF, Nat.mul_one, Nat.add_zero]
  unfold b2
  omega
end Go.Proofs.YtecgbelgoomneaaGreat
