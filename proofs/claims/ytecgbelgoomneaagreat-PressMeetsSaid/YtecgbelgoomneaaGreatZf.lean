
/- Zf: texts joined: PrN PrO QpB QpC PrP FsR PrQ. -/
import Derived.Test.YtecgbelgoomneaaGreatZd
import Derived.Test.YtecgbelgoomneaaGreatZQuC
import Derived.Test.YtecgbelgoomneaaGreatZc
import Derived.Test.YtecgbelgoomneaaGreatZFsB
import Derived.Test.YtecgbelgoomneaaGreatZe
import Derived.Test.YtecgbelgoomneaaGreatZa
import Derived.Test.YtecgbelgoomneaaGreatZQuB
import Derived.Test.YtecgbelgoomneaaGreatZFsQ0
import Derived.Test.YtecgbelgoomneaaGreatZFsQ1
import Derived.Test.YtecgbelgoomneaaGreatZFsQ2
import Derived.Test.YtecgbelgoomneaaGreatZFsQ3
import Derived.Test.YtecgbelgoomneaaGreatZb
/- What is pressed is met; loosened it is of 64 bits; all, none, one more of the greatest; pressed again; many rounds. Plain mathematics. No program in sight. -/
namespace Go.Proofs.YtecgbelgoomneaaGreat
open Go.RowKit
set_option maxRecDepth 100000
set_option linter.unusedVariables false
theorem spF_or {l v : List Int} (j : Int) : spF l v j = 0 ∨ spF l v j ∈ v := by
  unfold spF
  have key : ∀ (ps : List (Int × Int)) (a : Int), (a = 0 ∨ a ∈ v) → (∀ p ∈ ps, p.2 ∈ v) → (ps.foldl (fun acc p => if j = p.1 then p.2 else acc) a = 0 ∨ ps.foldl (fun acc p => if j = p.1 then p.2 else acc) a ∈ v) := by
    intro ps
    induction ps with
    | nil => intro a h _; exact h
    | cons p ps ih =>
      intro a h hp
      rw [List.foldl_cons]
      refine ih _ ?_ fun q hq => hp q (by simp [hq])
      split
      · exact .inr (hp p (by simp))
      · exact h
  exact key _ 0 (.inl rfl) fun p hp => (List.of_mem_zip hp).2
theorem plo_i64 {s : SentV} (hw : wfS s) : ∀ x ∈ ploV s, I64 x := by
  obtain ⟨w1, w2, w3, w4, w5, w6, w7⟩ := hw
  by_cases h : mayB s = true
  · obtain ⟨d1, d2, hp⟩ := mayB_iff.1 h
    unfold ploV
    rw [if_pos h]
    rcases hp with ⟨e, _, e2, _⟩ | ⟨e, e2, e3, _⟩ | ⟨e, _, _, e2, _, _, _, e4, e3⟩ | ⟨e, _, _, _, _, e4, e2⟩
    · rw [if_neg (by omega), if_neg (by omega), if_neg (by omega)]; exact w4
    · rw [if_pos e]
      obtain ⟨K, hK⟩ := Int.eq_ofNat_of_zero_le (show 0 ≤ s.dim by omega)
      rw [hK] at e2 ⊢
      rw [(sp_ok e2 e3.symm).2]
      intro x hx
      obtain ⟨j, _, rfl⟩ := List.mem_map.1 hx
      rcases spF_or (l := s.L) (v := s.V) j with h0 | h0
      · rw [h0]; decide
      · exact w4 _ h0
    · have h0 : loqE s = 0 := if_pos ⟨h, e⟩
      rw [if_neg (by omega), if_pos e]
      unfold loqV
      rw [if_pos h0]
      intro x hx
      unfold loqL at hx
      obtain ⟨j, _, rfl⟩ := List.mem_map.1 hx
      unfold loQ
      have := valV_le (l := (s.lev.getD j 0).toNat) (wide := s.wide) e4
      unfold I64 at w5 ⊢
      split <;> omega
    · have h0 : lsgE s = 0 := if_pos ⟨h, e⟩
      rw [if_neg (by omega), if_neg (by omega), if_pos e]
      unfold lsgV
      rw [if_pos h0]
      intro x hx
      unfold lsgL at hx
      obtain ⟨b, _, rfl⟩ := List.mem_map.1 hx
      unfold I64 at w5 ⊢
      split <;> omega
  · unfold ploV; rw [if_neg h]; simp
/-- What is pressed meets its way. -/
def isGB (v : List Int) (s : SentV) : Bool := decide (mnE v = 0) && sameS (sgS v) s
def mtB (sch k wide : Int) (v : List Int) (s : SentV) : Bool :=
  decide (howP sch k wide v.length ∧ mayB s = true ∧ s.sch = sch) &&
    (if sch = 1 then isTB v k s else if sch = 2 then (decide (s.wide = wide) && nearB v s) else if sch = 3 then isGB v s else eqB s.V v)
theorem pp_meets {sch k wide : Int} {v : List Int} {seed : Nat} {n : List Int} (uv : ∀ x ∈ v, I64 x) (h : ppE sch k wide v = 0) : mtB sch k wide v (ppS sch k wide v seed n) = true := by
  obtain ⟨m1, m2, _⟩ := pp_may (seed := seed) (n := n) uv h
  obtain ⟨h1, hp, h3⟩ := ppE_ok.1 h
  unfold mtB
  rw [decide_eq_true ⟨hp, m1, m2⟩, Bool.true_and, pp_is h]
  obtain ⟨_, _, hp⟩ := hp
  unfold wayE at h3
  unfold wayS
  rcases hp with ⟨rfl, rfl, rfl⟩ | ⟨rfl, k1, k2, rfl⟩ | ⟨rfl, rfl, w1, w2⟩ | ⟨rfl, rfl, rfl⟩
  · rw [if_neg (by decide), if_neg (by decide), if_neg (by decide), if_neg (by decide), if_neg (by decide), if_neg (by decide)]
    exact eqB_self v
  · rw [if_pos rfl] at h3 ⊢
    rw [if_pos rfl]
    unfold isTB
    rw [decide_eq_true h3, sameS_iff.2 rfl]; rfl
  · rw [if_neg (by decide), if_pos rfl] at h3 ⊢
    rw [if_neg (by decide), if_pos rfl, prq_near h3, prq_parts h3]
    simp
  · rw [if_neg (by decide), if_neg (by decide), if_pos rfl] at h3 ⊢
    rw [if_neg (by decide), if_neg (by decide), if_pos rfl]
    unfold isGB
    rw [decide_eq_true h3, sameS_iff.2 rfl]; rfl
end Go.Proofs.YtecgbelgoomneaaGreat
/- Of all nothing is left, of none all, of one more no more; pressed again; many rounds. Plain mathematics. No program in sight. -/
/- Whether a vector is one in levels that may be; loosened: by the program. -/
namespace Go.Proofs.YtecgbelgoomneaaGreat
open Go.RowKit
set_option maxHeartbeats 400000
set_option maxRecDepth 100000
set_option linter.unusedVariables false
theorem width_qp {g : Nat} {wd x : Int} {w : World} (hc : w.cell? ⟨g, 5, none⟩ = some (.int .i64 wd)) (ux : U64 x) :
    Calls Tryz.prog 207 (#[.int .u64 x] ++ #[.pointer (some ⟨g, 0, none⟩)]) w fun e w' => e = .returned (.bool (decide (wd < (wdt x : Int)))) ∧ ∃ n, w' = w.drewN n := by
  have CW := hid (fun W => pl_Width x ux W)
  obtain ⟨z, hz⟩ : ∃ z, wdt x = z := ⟨_, rfl⟩
  rw [hz] at CW ⊢
  clear hz
  go_enter Tryz.func207, Tryz.ntmps207
  go_wp2_with fail
  go_quiet ((go_at_call 185; exact quietL CW.out _))
  go_wp2_with fail
  go_ret
  exact ⟨rfl, _, rfl⟩
theorem qp_levels (s : SentV) (p : SentP) (hn : lnS 100000 s) (hw : I64 s.wide) (ul : U64s s.lev) (w : World) {B : Nat} (hB : B ≤ w.heap.size) (ra : RdS w B s p) :
    Calls Tryz.prog 169 #[encT s p] w fun e w' => e = .returned (.bool (lvB s)) ∧ Below w.heap.size w w' := by
  have HR : lvB s = true ↔ (stsE s.wide = 0 ∧ (s.lev.length : Int) = s.dim ∧ fitsB s.wide s.lev = true) := by
    unfold lvB
    rw [decide_eq_true_eq, stsE_ok]
    constructor
    · rintro ⟨a, b, c, d⟩; exact ⟨⟨a, b⟩, c, d⟩
    · rintro ⟨⟨a, b⟩, c, d⟩; exact ⟨a, b, c, d⟩
  obtain ⟨R, hR⟩ : ∃ R, lvB s = R := ⟨_, rfl⟩
  rw [hR] at HR ⊢
  have CS := hid (fun W => qp_Steps s.wide hw W)
  have CC : Hid (∀ W, Below w.heap.size w W → W.cell? ⟨w.heap.size, 5, none⟩ = some (.int .i64 s.wide) → Calls Tryz.prog 183 #[.slice p.AE s.lev.length p.cE, .func (.func 207) #[] #[.pointer (some ⟨w.heap.size, 0, none⟩)]] W fun e w' => e = .returned (.bool (!fitsB s.wide s.lev)) ∧ ∃ n, w' = W.drewN n) := hid (fun W hb hc => by
    have h := contains_any (A := p.AE) (c := p.cE) 207 #[.pointer (some ⟨w.heap.size, 0, none⟩)] s.lev (by have := hn.2.2.1; omega) (fun x => decide (s.wide < (wdt x : Int))) W (cl_enter 207 (by kernel_rfl)) (ra.2.2.1.below (hb.mono hB)) (fun x hx n => width_qp (w := W.drewN n) hc (ul x hx))
    rw [any_fits] at h
    exact h)
  obtain ⟨v, hv⟩ : ∃ v, fitsB s.wide s.lev = v := ⟨_, rfl⟩
  rw [hv] at HR CC
  obtain ⟨E, hE⟩ : ∃ E, stsE s.wide = E := ⟨_, rfl⟩
  obtain ⟨V, hV⟩ : ∃ V, stsV s.wide = V := ⟨_, rfl⟩
  rw [hE] at HR CS
  rw [hV] at CS
  have HR2 := hid HR
  clear hR HR hv ra hn ul hE hV
  go_enter Tryz.func169, Tryz.ntmps169
  go_wp2_with fail
  refine (CS.out _).mono ?_
  rintro _ _ ⟨rfl, rfl⟩
  by_cases h0 : E = 0
  · subst h0
    go_wp2_with fail
    any_goals (go_ret; refine ⟨ret_of ?_, by go_grown⟩; rw [HR2.out]; first | (simp [*]; done) | (simp [*]; omega))
    refine (CC.out _ (by go_grown) (by simp [go_sem])).mono ?_
    rintro _ _ ⟨rfl, n1, rfl⟩
    go_wp2_with fail
    go_ret
    refine ⟨ret_of ?_, Below.trans (by go_grown) (belowN _ _ _)⟩
    rw [HR2.out]
    first | (simp [*]; done) | (simp [*]; omega)
  · have h0' : (E != 0) = true := by simpa using h0
    have hRf : R = false := by
      cases R with
      | false => rfl
      | true => exact absurd (HR2.out.1 rfl).1 h0
    subst hRf
    clear h0 HR2
    go_wp2_with fail
    go_ret
    exact ⟨rfl, by go_grown⟩
/-- One in levels that may be. -/
def myQ (s : SentV) : Bool := decide (s.sch = 2 ∧ 1 ≤ s.dim ∧ s.dim ≤ 4096 ∧ s.L = [] ∧ s.V = [] ∧ 0 ≤ s.scale ∧ (s.neg.length : Int) = s.dim ∧ lvB s = true)
theorem myQ_iff {s : SentV} : myQ s = true ↔ mayB s = true ∧ s.sch = 2 := by
  unfold myQ lvB
  rw [decide_eq_true_iff, decide_eq_true_iff, mayB_iff]
  unfold mayP
  constructor
  · rintro ⟨a, b, c, d, e, f, g, h1, h2, h3, h4⟩
    exact ⟨⟨b, c, .inr (.inr (.inl ⟨a, h1, h2, h3, h4, d, e, f, g⟩))⟩, a⟩
  · rintro ⟨⟨b, c, h⟩, a⟩
    rcases h with h | h | ⟨_, h1, h2, h3, h4, d, e, f, g⟩ | h
    · have := h.1; omega
    · have := h.1; omega
    · exact ⟨a, b, c, d, e, f, g, h1, h2, h3, h4⟩
    · have := h.1; omega
theorem qp_may_v (sch dim scale wide : Int) (nL nV nE nN : Nat) (AL AV AE AN : Option Addr) (cL cV cE cN : Nat) (R v : Bool) (hd : I64 dim) (w : World)
    (HR : Hid (R = true ↔ (sch = 2 ∧ 1 ≤ dim ∧ dim ≤ 4096 ∧ nL = 0 ∧ nV = 0 ∧ 0 ≤ scale ∧ (nN : Int) = dim ∧ v = true)))
    (CL : Hid (∀ W, Below w.heap.size w W → Calls Tryz.prog 169 #[.agg #[.int .i64 sch, .int .i64 dim, .slice AL nL cL, .slice AV nV cV, .int .i64 scale, .int .i64 wide, .slice AE nE cE, .slice AN nN cN]] W fun e w' => e = .returned (.bool v) ∧ Below W.heap.size W w')) :
    Calls Tryz.prog 122 #[.agg #[.int .i64 sch, .int .i64 dim, .slice AL nL cL, .slice AV nV cV, .int .i64 scale, .int .i64 wide, .slice AE nE cE, .slice AN nN cN]] w fun e w' => e = .returned (.bool R) ∧ Below w.heap.size w w' := by
  unfold I64 at hd
  by_cases h1 : sch = 2
  · subst h1
    by_cases h2 : dim ≥ 1
    · by_cases h3 : dim ≤ 4096
      · by_cases h4 : nL = 0
        · subst h4
          by_cases h5 : nV = 0
          · subst h5
            by_cases h6 : scale ≥ 0
            · by_cases h7 : (nN : Int) = dim
              · subst h7
                have hF : R = v := by
                  rw [Bool.eq_iff_iff, HR.out]
                  exact ⟨fun h => h.2.2.2.2.2.2.2, fun h => ⟨rfl, h2, h3, rfl, rfl, h6, rfl, h⟩⟩
                subst hF
                clear HR
                go_enter Tryz.func122, Tryz.ntmps122
                go_wp2_with fail
                refine (CL.out _ (by go_grown)).mono ?_
                rintro _ w1 ⟨rfl, hb⟩
                go_wp2_with fail
                go_ret
                exact ⟨by simp, Below.trans (by go_grown) (hb.mono (by simp))⟩
              · have t7 : ((nN : Int) == dim) = false := beq_eq_false_iff_ne.2 h7
                have hF : R = false := Bool.eq_false_iff.2 (fun h => h7 (HR.out.1 h).2.2.2.2.2.2.1)
                subst hF
                clear CL HR
                go_enter Tryz.func122, Tryz.ntmps122
                go_wp2_with fail
                go_ret
                exact ⟨rfl, by go_grown⟩
            · have hF : R = false := Bool.eq_false_iff.2 (fun h => h6 (HR.out.1 h).2.2.2.2.2.1)
              subst hF
              clear CL HR
              go_enter Tryz.func122, Tryz.ntmps122
              go_wp2_with fail
              go_ret
              exact ⟨rfl, by go_grown⟩
          · have t5 : ((nV : Int) == 0) = false := beq_eq_false_iff_ne.2 (by omega)
            have t5b : (nV == 0) = false := beq_eq_false_iff_ne.2 h5
            have hF : R = false := Bool.eq_false_iff.2 (fun h => h5 (HR.out.1 h).2.2.2.2.1)
            subst hF
            clear CL HR
            go_enter Tryz.func122, Tryz.ntmps122
            go_wp2_with fail
            go_ret
            exact ⟨rfl, by go_grown⟩
        · have t4 : ((nL : Int) == 0) = false := beq_eq_false_iff_ne.2 (by omega)
          have t4b : (nL == 0) = false := beq_eq_false_iff_ne.2 h4
          have hF : R = false := Bool.eq_false_iff.2 (fun h => h4 (HR.out.1 h).2.2.2.1)
          subst hF
          clear CL HR
          go_enter Tryz.func122, Tryz.ntmps122
          go_wp2_with fail
          go_ret
          exact ⟨rfl, by go_grown⟩
      · have hF : R = false := Bool.eq_false_iff.2 (fun h => h3 (HR.out.1 h).2.2.1)
        subst hF
        clear CL HR
        go_enter Tryz.func122, Tryz.ntmps122
        go_wp2_with fail
        go_ret
        exact ⟨rfl, by go_grown⟩
    · have hF : R = false := Bool.eq_false_iff.2 (fun h => h2 (HR.out.1 h).2.1)
      subst hF
      clear CL HR
      go_enter Tryz.func122, Tryz.ntmps122
      go_wp2_with fail
      go_ret
      exact ⟨rfl, by go_grown⟩
  · have t1 : (sch == 2) = false := beq_eq_false_iff_ne.2 h1
    have hF : R = false := Bool.eq_false_iff.2 (fun h => h1 (HR.out.1 h).1)
    subst hF
    clear CL HR
    go_enter Tryz.func122, Tryz.ntmps122
    go_wp2_with fail
    go_ret
    exact ⟨rfl, by go_grown⟩
theorem qp_may (s : SentV) (p : SentP) (hn : lnS 100000 s) (hw : wfS s) (w : World) {B : Nat} (hB : B ≤ w.heap.size) (ra : RdS w B s p) :
    Calls Tryz.prog 122 #[encT s p] w fun e w' => e = .returned (.bool (myQ s)) ∧ Below w.heap.size w w' := by
  refine qp_may_v s.sch s.dim s.scale s.wide s.L.length s.V.length s.lev.length s.neg.length p.AL p.AV p.AE p.AN p.cL p.cV p.cE p.cN (myQ s) (lvB s) hw.2.1 w (hid ?_) (hid fun W h => ?_)
  · unfold myQ; rw [decide_eq_true_eq, List.length_eq_zero_iff, List.length_eq_zero_iff]
  · exact qp_levels s p hn hw.2.2.2.2.2.1 hw.2.2.2.2.2.2 W (B := w.heap.size) h.size ((ra.below (h.mono hB)).more hB)
end Go.Proofs.YtecgbelgoomneaaGreat
/- Loosened, by the program. -/
namespace Go.Proofs.YtecgbelgoomneaaGreat
open Go.RowKit
set_option maxHeartbeats 1000000
set_option maxRecDepth 100000
set_option linter.unusedVariables false
theorem own_loq {w' : World} {b B M : Nat} {e : TypeId} {s : SentV} (h : w'.rowIs b e M (fun j => .int .i64 (loQ s j))) (hB : B ≤ b) (hM : M ≤ 4096) :
    w'.ownsRow B e 1 (.slice (some ⟨b, 0, none⟩) (loqL s M).length M) (loqL s M).length ((loqL s M).map (Value.int .i64)) := by
  have h2 := own_made (w' := w') h hB (by unfold maxLen; omega)
  unfold loqL
  rw [List.length_map, List.length_range, List.map_map]
  exact h2
set_option maxHeartbeats 4000000 in
theorem qp_Loosen (s : SentV) (p : SentP) (hn : lnS 100000 s) (hw : wfS s) (w : World) (ra : RdS w w.heap.size s p) :
    Calls Tryz.prog 77 #[encT s p] w (OwnE 2 .i64 w.heap.size (loqV s) (loqE s) w) := by
  obtain ⟨AL, cL, AV, cV, AE, cE, AN, cN⟩ := p
  have CM := hid (fun W (h : Below w.heap.size w W) => show Calls Tryz.prog 122 #[.agg #[.int .i64 s.sch, .int .i64 s.dim, .slice AL s.L.length cL, .slice AV s.V.length cV, .int .i64 s.scale, .int .i64 s.wide, .slice AE s.lev.length cE, .slice AN s.neg.length cN]] W fun e w' => e = .returned (.bool (myQ s)) ∧ Below W.heap.size W w' from qp_may s ⟨AL, cL, AV, cV, AE, cE, AN, cN⟩ hn hw W (B := w.heap.size) h.size (ra.below h))
  show Calls Tryz.prog 77 #[.agg #[.int .i64 s.sch, .int .i64 s.dim, .slice AL s.L.length cL, .slice AV s.V.length cV, .int .i64 s.scale, .int .i64 s.wide, .slice AE s.lev.length cE, .slice AN s.neg.length cN]] w _
  by_cases hm : mayB s = true ∧ s.sch = 2
  · have he : loqE s = 0 := if_pos hm
    have hv : loqV s = loqL s s.lev.length := if_pos he
    rw [he, hv]
    rw [myQ_iff.2 hm] at CM
    obtain ⟨m1, m2, m3, m4⟩ := may_lev hm.1 hm.2
    have m5 : s.dim = (s.lev.length : Int) := by
      have h := of_decide_eq_true (myQ_iff.2 hm)
      have h2 := h.2.2.2.2.2.2.1
      omega
    have hsc := hw.2.2.2.2.1
    have hwd := hw.2.2.2.2.2.1
    have CV := hid (fun (l : Nat) (hl : l < 18446744073709551616) W => qp_Value l s.scale s.wide hl hsc hwd W)
    have HU := hid hw.2.2.2.2.2.2
    have HVL := hid (fun l : Nat => valV_le (l := l) (wide := s.wide) m4)
    have HLO := hid (fun q => show loQ s q = if s.neg.getD q false = true then -(valV (s.lev.getD q 0).toNat s.scale s.wide : Int) else (valV (s.lev.getD q 0).toNat s.scale s.wide : Int) from rfl)
    have RA : Hid (Rd (Value.int .u64) w w.heap.size AE s.lev) := hid ra.2.2.1
    have RN : Hid (Rd Value.bool w w.heap.size AN s.neg) := hid ra.2.2.2
    have hs63 : s.scale ≤ 9223372036854775807 := by unfold I64 at hsc; omega
    have HNL := hid m2
    have H2 := hid hm.2
    have HD := hid m5
    have hmk := fun (n : Nat) (hn : n ≤ 4096) W => run_make_row' (P := Tryz.prog) 24 2 (.int .i64 0) 8 Tryz.underlying24 info_i64 rfl .i64 .i64 n (by omega) (by omega) W
    have hmk1 := hmk s.lev.length m1
    obtain ⟨F, hF⟩ : ∃ F, loQ s = F := ⟨_, rfl⟩
    have HF := hid hF
    rw [hF] at HLO
    clear he hv hm ra hn hw m2 m3 hsc hwd m5 hmk hF
    go_enter Tryz.func77, Tryz.ntmps77
    go_wp2_with fail
    have B0 := BoxL.new w [.int .i64 s.sch, .int .i64 s.dim, .slice AL s.L.length cL, .slice AV s.V.length cV, .int .i64 s.scale, .int .i64 s.wide, .slice AE s.lev.length cE, .slice AN s.neg.length cN] 32
    refine (CM.out _ (by go_grown)).mono ?_
    rintro _ w1 ⟨rfl, hb⟩
    have HB1 := hid (B0.below hb (by simp))
    have k1 : Below w.heap.size w w1 := Below.trans (by go_grown) (hb.mono (by simp))
    have hg1 : w.heap.size < w1.heap.size := by have := hb.size; simp at this; omega
    have f1 := (HB1.out 1 _ rfl).1
    rw [HD.out] at f1
    have f6 := (HB1.out 6 _ rfl).1
    clear B0 hb CM
    go_wp2_with fail
    clear f1 f6
    go_loopw [5, 6, 16] (fun x5 x6 i wr => ∃ k : Nat, k ≤ s.lev.length ∧ i = .int .i64 k ∧ wr.rowIs w1.heap.size 2 s.lev.length (fun j => .int .i64 (if j < k then F j else 0)) ∧ Below w1.heap.size w1 wr) (fun _ _ i _ => s.lev.length - (intOf i).toNat)
    case atStart => exact ⟨0, by omega, rfl, by simpa using World.rowIs_made w1 (.int .i64 0) s.lev.length _, by go_grown⟩
    case round =>
      clear hmk1
      obtain ⟨k, hk, rfl, hrow, hbr⟩ := hrel
      have HR := hid hrow
      by_cases hlt : k < s.lev.length
      · have kw := k1.trans (hbr.mono k1.size)
        obtain ⟨b1, o1, x, rfl, l1, ex, d1⟩ := (RA.out.below kw).at_ hlt
        obtain ⟨b2, o2, y, rfl, l2, ey, d2⟩ := (RN.out.below kw).at_ (k := k) (by rw [HNL.out]; exact hlt)
        have hltn : k < s.neg.length := by rw [HNL.out]; exact hlt
        obtain ⟨x1, x2⟩ := HU.out.at_ ex
        obtain ⟨l, rfl⟩ := Int.eq_ofNat_of_zero_le x1
        have C := hid (CV.out l (by omega) wr)
        have hvl := HVL.out l
        have hlo := HLO.out k
        rw [getD_of ex, show s.neg.getD k false = y by rw [List.getD_eq_getElem?_getD, ey]; rfl, Int.toNat_natCast] at hlo
        obtain ⟨z, hz⟩ : ∃ z, valV l s.scale s.wide = z := ⟨_, rfl⟩
        rw [hz] at C hvl hlo
        have HLO2 := hid hlo
        have HX := hid (HB1.out.below hbr hg1)
        have f4 := (HX.out 4 _ rfl).1
        have f5 := (HX.out 5 _ rfl).1
        have c3 := hrow.cell hlt
        have f3 := hrow.frozen k
        clear ex ey hlo hz hrow
        go_wp2_with fail
        refine C.out.mono ?_
        rintro _ _ ⟨rfl, m, rfl⟩
        obtain ⟨W1, hW1⟩ : ∃ W1, (wr.drewN m).setCell ⟨w1.heap.size, k, none⟩ (.int .i64 (z : Int)) = W1 := ⟨_, rfl⟩
        have hlw : w1.heap.size < wr.heap.size := by have := HR.out.lt; omega
        have hwl : w.heap.size < wr.heap.size := by omega
        have z0 : Below wr.heap.size wr (wr.drewN m) := belowN _ _ _
        have z1 : Below w1.heap.size wr W1 := by rw [← hW1]; exact (belowN w1.heap.size wr m).setCell (Nat.le_refl _) _
        have f7 := (HX.out.below z1 hg1 7 _ rfl).1
        have d2' : W1.cell? ⟨b2, o2 + k, none⟩ = some (.bool y) := by rw [z1.cell (p := ⟨b2, o2 + k, none⟩) (by show b2 < _; omega)]; exact d2
        have hR1 : W1.rowIs w1.heap.size 2 s.lev.length (fun j => if j = k then .int .i64 (z : Int) else .int .i64 (if j < k then F j else 0)) := by rw [← hW1]; exact (HR.out.of_block (z0.block _ hlw)).set k _
        have r1 := hR1.cell hlt
        rw [if_pos rfl] at r1
        have r2 := hR1.frozen k
        have HR1 := hid hR1
        have HB2 := hid (hbr.trans z1)
        have HLT := hid hlw
        clear HX d2 hR1 z0 z1 hbr HR hlw hwl
        cases y with
        | false =>
          have HL := hid (show F k = (z : Int) from HLO2.out)
          go_wp2_with fail
          go_roundw
          case rel =>
            refine ⟨k + 1, by omega, by go_num, HR1.out.congr fun j hj => ?_, HB2.out⟩
            by_cases e : j = k
            · rw [if_pos e, if_pos (by omega), e, HL.out]
            · by_cases e2 : j < k
              · rw [if_neg e, if_pos e2, if_pos (by omega)]
              · rw [if_neg e, if_neg e2, if_neg (by omega)]
          case measure => simp [intOf]; omega
        | true =>
          have HL := hid (show F k = -(z : Int) from HLO2.out)
          have hwr : IntKind.i64.wrap (-(z : Int)) = -(z : Int) := by rw [IntKind.wrap_i64]; omega
          go_wp2_with fail
          go_roundw
          case rel =>
            refine ⟨k + 1, by omega, by go_num, (HR1.out.set k (.int .i64 (-(z : Int)))).congr fun j hj => ?_, HB2.out.setCell (Nat.le_refl _) _⟩
            by_cases e : j = k
            · rw [if_pos e, if_pos (by omega), e, HL.out]
            · by_cases e2 : j < k
              · rw [if_neg e, if_neg e, if_pos e2, if_pos (by omega)]
              · rw [if_neg e, if_neg e, if_neg e2, if_neg (by omega)]
          case measure => simp [intOf]; omega
      · obtain rfl : k = s.lev.length := by omega
        have kw := k1.trans (hbr.mono k1.size)
        have hfin : OwnE 2 .i64 w.heap.size (loqL s s.lev.length) 0 w (.returned (.tuple #[.slice (some ⟨w1.heap.size, 0, none⟩) s.lev.length s.lev.length, .int .i64 0])) wr := by
          have h3 := own_loq (w' := wr) (s := s) (M := s.lev.length) (B := w.heap.size) (HR.out.congr fun j hj => by rw [if_pos hj, HF.out]) (by omega) m1
          rw [loqL_len] at h3
          exact ⟨some ⟨w1.heap.size, 0, none⟩, s.lev.length, by rw [loqL_len], by rw [loqL_len]; exact h3, kw⟩
        clear HR
        go_wp2_with fail
        go_ret2
        exact hfin
  · have he : loqE s = 1 := if_neg hm
    have hv : loqV s = [] := if_neg (by rw [he]; decide)
    rw [he, hv]
    have hq : myQ s = false := by
      cases h : myQ s with
      | false => rfl
      | true => exact absurd (myQ_iff.1 h) hm
    rw [hq] at CM
    clear he hv hm ra hn hw hq
    go_enter Tryz.func77, Tryz.ntmps77
    go_wp2_with fail
    refine (CM.out _ (by go_grown)).mono ?_
    rintro _ w1 ⟨rfl, hb⟩
    have k1 : Below w.heap.size w w1 := Below.trans (by go_grown) (hb.mono (by simp))
    go_wp2_with fail
    go_ret2
    exact .nil k1
end Go.Proofs.YtecgbelgoomneaaGreat
/- What is pressed is short, and of 64 bits. Plain mathematics. -/
namespace Go.Proofs.YtecgbelgoomneaaGreat
open Go.RowKit
set_option maxRecDepth 100000
set_option linter.unusedVariables false
theorem prq_ln {v : List Int} {wide : Int} {s : Nat} {n : List Int} : lnS 5000 (prqS v wide s n) := by
  unfold prqS
  split
  · rename_i h
    have h2 := (mostq_ok (prqE_ok.1 h).2.2).1
    refine ⟨by simp, by simp, ?_, ?_⟩
    · show (levQ v wide s n v.length).length ≤ 5000; rw [levQ_len]; omega
    · show (negQ v v.length).length ≤ 5000; rw [negQ_len]; omega
  · exact ⟨by simp [zeroS], by simp [zeroS], by simp [zeroS], by simp [zeroS]⟩
theorem prq_wf {v : List Int} {wide : Int} {s : Nat} {n : List Int} (hw : I64 wide) : wfS (prqS v wide s n) := by
  unfold prqS
  split
  · rename_i h
    obtain ⟨h1, h2, h3⟩ := prqE_ok.1 h
    have h4 := (mostq_ok h3).1
    refine ⟨by show I64 2; decide, by show I64 (v.length : Int); unfold I64; omega, by simp, by simp, most_i64 v, hw, fun x hx => ?_⟩
    have hx' : x ∈ levQ v wide s n v.length := hx
    unfold levQ at hx'
    obtain ⟨i, hi, rfl⟩ := List.mem_map.1 hx'
    have h5 := (plQ_is (seed := s) (n := n) (i := i) (prq_lvl h (List.mem_range.1 hi))).2
    have h6 := topQ_bd h1
    unfold U64
    omega
  · exact wf_zeroS
theorem den_wf {v : List Int} (hl : v.length ≤ 4096) (uv : ∀ x ∈ v, I64 x) : wfS (denS v) := by
  refine ⟨by show I64 0; decide, by show I64 (v.length : Int); unfold I64; omega, ?_, uv, by show I64 0; decide, by show I64 0; decide, ?_⟩
  · intro x hx; exact absurd hx (by show ¬ x ∈ ([] : List Int); simp)
  · intro x hx; exact absurd hx (by show ¬ x ∈ ([] : List Int); simp)
theorem pp_ln (sch k wide : Int) (v : List Int) (s : Nat) (n : List Int) : lnS 5000 (ppS sch k wide v s n) := by
  by_cases h : ppE sch k wide v = 0
  · rw [pp_is h]
    obtain ⟨h1, hp, h3⟩ := ppE_ok.1 h
    unfold wayS
    split
    · exact (prsS_ln v k).more (by decide)
    · split
      · exact prq_ln
      · split
        · exact (sgS_ln v).more (by decide)
        · exact ⟨by show ([] : List Int).length ≤ 5000; simp, by show v.length ≤ 5000; omega, by show ([] : List Int).length ≤ 5000; simp, by show ([] : List Bool).length ≤ 5000; simp⟩
  · rw [show ppS sch k wide v s n = zeroS from if_neg h]
    exact ln_zero _
theorem pp_wf {sch k wide : Int} {v : List Int} {s : Nat} {n : List Int} (hw : I64 wide) (uv : ∀ x ∈ v, I64 x) : wfS (ppS sch k wide v s n) := by
  by_cases h : ppE sch k wide v = 0
  · rw [pp_is h]
    obtain ⟨h1, hp, h3⟩ := ppE_ok.1 h
    have h0 : v ≠ [] := fun e => by have := hp.1; rw [e] at this; simp at this
    unfold wayE at h3
    unfold wayS
    by_cases s1 : sch = 1
    · rw [if_pos s1] at h3 ⊢
      have hk : pikE v k = 0 := by unfold prsE at h3; rwa [if_neg h0] at h3
      exact (prs_may uv h0 hk).2.1
    · rw [if_neg s1]
      split
      · exact prq_wf hw
      · split
        · exact sgS_wf
        · exact den_wf h1 uv
  · rw [show ppS sch k wide v s n = zeroS from if_neg h]
    exact wf_zeroS
end Go.Proofs.YtecgbelgoomneaaGreat
/- Bodies, texts, and how many bytes, by the program. -/
namespace Go.Proofs.YtecgbelgoomneaaGreat
open Go.RowKit
set_option maxHeartbeats 1000000
set_option maxRecDepth 100000
set_option linter.unusedVariables false
theorem wx_body (s : SentV) (p : SentP) (hn : lnS 5000 s) (hw : wfS s) (hm : mayP s) (w : World) (ra : RdS w w.heap.size s p) :
    Calls Tryz.prog 59 #[encT s p] w (OwnOf 5 .u8 w.heap.size (bodyL s) w) := by
  have rb : ∀ W, Below w.heap.size w W → RdS W W.heap.size s p := fun W h => ⟨(ra.1.below h).more h.size, (ra.2.1.below h).more h.size, (ra.2.2.1.below h).more h.size, (ra.2.2.2.below h).more h.size⟩
  obtain ⟨hd1, hd4, hc⟩ := hm
  have hsc : I64 s.scale := hw.2.2.2.2.1
  unfold I64 at hsc
  have lv : (sgnd s.V).length ≤ 50000 := by have := sgnd_len hw.2.2.2.1; have := hn.2.1; omega
  have lp := pixV_len s.dim s.L
  rcases hc with ⟨e, h⟩ | ⟨e, h⟩ | ⟨e, h1, h2, h3, h4, h5, h6, h7, h8⟩ | ⟨e, h1, h2, h3, h4, h5, h6⟩
  · have hh := wx_bodyK_dense s p e hd1 hd4 (sgnd s.V) (by omega) w (fun W h => wx_dense s p hn hw W (rb W h))
    have eb : ([s.sch] ++ encs [s.dim]) ++ sgnd s.V = bodyL s := by
      unfold bodyL tailL
      rw [if_pos e, encs_one]; simp
    rw [eb] at hh; exact hh
  · have hh := wx_bodyK_top s p e hd1 hd4 (pixV s.dim s.L ++ sgnd s.V) (by have a := plc_le (chk_ok.1 h.1); have b := h.2.1; have c := sgnd_len hw.2.2.2.1; rw [List.length_append]; omega) w (fun W h => wx_top s p hn hw W (rb W h))
    have eb : ([s.sch] ++ encs [s.dim]) ++ (pixV s.dim s.L ++ sgnd s.V) = bodyL s := by
      unfold bodyL tailL
      rw [if_neg (by omega), if_pos e, encs_one]; simp
    rw [eb] at hh; exact hh
  · have hwl2 : (wevV s.wide s.lev).length ≤ 5000 := by
      have hb8 : bysE s.wide s.lev.length = 0 := by unfold bysE; rw [if_neg (by omega), if_neg (by omega)]
      have hme : mayE s.wide s.lev = 0 := by unfold mayE; rw [if_pos hb8, if_pos h4]
      have h9 : s.wide.toNat * s.lev.length ≤ 8 * 4096 := Nat.mul_le_mul (by omega) (by omega)
      rw [((may_same s.wide s.lev).2 hme).2]; omega
    have l1 := lebI_ten (n := s.scale) (by unfold U64; omega)
    have l2 := sgnV_len (l := s.neg) (by omega)
    have hh := wx_bodyK_level s p e hd1 hd4 (lebI s.scale ++ ((s.wide :: wevV s.wide s.lev) ++ sgnV s.neg)) (by simp; omega) w (fun W h => wx_level s p hn hw h7 h1 h2 (by omega) h4 W (rb W h))
    have eb : ([s.sch] ++ encs [s.dim]) ++ (lebI s.scale ++ ((s.wide :: wevV s.wide s.lev) ++ sgnV s.neg)) = bodyL s := by
      unfold bodyL tailL
      rw [if_neg (by omega), if_neg (by omega), if_pos e, encs_one]; simp
    rw [eb] at hh; exact hh
  · have l1 := lebI_ten (n := s.scale) (by unfold U64; omega)
    have l2 := sgnV_len (l := s.neg) (by omega)
    have hh := wx_bodyK_sign s p e hd1 hd4 (lebI s.scale ++ sgnV s.neg) (by simp; omega) w (fun W h => wx_sign s p hn h5 hsc.2 W (rb W h))
    have eb : ([s.sch] ++ encs [s.dim]) ++ (lebI s.scale ++ sgnV s.neg) = bodyL s := by
      unfold bodyL tailL
      rw [if_neg (by omega), if_neg (by omega), if_neg (by omega), encs_one]; simp
    rw [eb] at hh; exact hh
theorem text_lenM {f : FrameV} (hc : chkF f = 0) (hw : wfF f) : (textL f).length ≤ 90000 := by
  have h1 := (chk_len hc).2.1
  have := text_len hc hw h1
  omega
theorem wx_Write (f : FrameV) (p : SentP) (hn : lnS 5000 f.S) (hw : wfF f) (w : World) (ra : RdS w w.heap.size f.S p) :
    Calls Tryz.prog 29 #[encF f p] w (OwnE 5 .u8 w.heap.size (wrtV f) (wrtE f) w) := by
  have rb : ∀ W, Below w.heap.size w W → RdS W W.heap.size f.S p := fun W h => ⟨(ra.1.below h).more h.size, (ra.2.1.below h).more h.size, (ra.2.2.1.below h).more h.size, (ra.2.2.2.below h).more h.size⟩
  have CC := hid (fun W (h : Below w.heap.size w W) => fs_Check f p (hn.more (by omega)) hw W (rb W h))
  unfold wrtV wrtE
  by_cases hc : chkF f = 0
  · have hu := text_u8 hc hw
    have htl := text_lenM hc hw
    obtain ⟨h1, h2, h3, h4, h5⟩ := chkF_ok.1 hc
    rw [if_pos hc, if_pos hc]
    rw [hc] at CC
    have hk : f.knd = 1 ∨ f.knd = 2 := by rcases h5 with h | h; exact Or.inl h.1; exact Or.inr h.1
    have hT1 : f.knd = 1 → ([1, f.knd] ++ encs [f.frm, f.stp]) ++ bodyL f.S = textL f := fun e => by
      unfold textL
      rw [if_pos e, encs_cons, encs_one]
      simp
    have hT2 : f.knd = 2 → ([1, f.knd] ++ encs [f.frm, f.stp]) = textL f := fun e => by
      unfold textL
      rw [if_neg (by omega), encs_cons, encs_one]
      simp
    have CS := hid (fun A d W (h : Rd (Value.int .u8) W W.heap.size A (textL f)) => crc_Seal (A := A) (c := d) (textL f) (by omega) hu W h)
    obtain ⟨SV, hSV⟩ : ∃ SV, sealV (textL f) = SV := ⟨_, rfl⟩
    obtain ⟨SE, hSE⟩ : ∃ SE, sealE (textL f) = SE := ⟨_, rfl⟩
    rw [hSV, hSE] at CS ⊢
    obtain ⟨T, hT⟩ : ∃ T, textL f = T := ⟨_, rfl⟩
    rw [hT] at CS hT1 hT2 htl
    have hPl : ([1, f.knd] ++ encs [f.frm, f.stp]).length ≤ 30 := by
      have a := lebI_ten (n := f.frm) (by unfold U64; omega)
      have b := lebI_ten (n := f.stp) (by unfold U64; omega)
      rw [encs_cons, encs_one]
      simp; omega
    have CP := hid (fun (W : World) (A B : Option Addr) (ha : Rd (Value.int .u8) W W.heap.size A [1, f.knd]) (hb : Rd (Value.int .u64) W W.heap.size B [f.frm, f.stp]) => leb_Put (A := A) (B := B) (c := 2) (d := 2) [1, f.knd] [f.frm, f.stp] (by simp) (by simp) (by
      intro x hx; simp at hx; rcases hx with rfl | rfl
      · unfold U64; omega
      · unfold U64; omega) W ha hb)
    obtain ⟨P, hP⟩ : ∃ P, [1, f.knd] ++ encs [f.frm, f.stp] = P := ⟨_, rfl⟩
    rw [hP] at CP hT1 hT2 hPl
    have CB := hid (fun W (h : Below w.heap.size w W) (e : f.knd = 1) => wx_body f.S p hn hw.2.2.2 (by rcases h5 with h | h; exact mayB_iff.1 h.2; have := h.1; omega) W (rb W h))
    have HB0 := hid (boxF_new w f p 54)
    clear hSV hSE hT hP hu h5 hc ra rb hn hw
    go_enter Tryz.func29, Tryz.ntmps29
    go_wp2_with fail
    refine (CC.out _ (by go_grown)).mono ?_
    rintro _ w1 ⟨rfl, hb1⟩
    have k1 : Below w.heap.size w w1 := Below.trans (by go_grown) (hb1.mono (by simp))
    have HB1 := hid (HB0.out.below hb1 (by simp))
    clear hb1 CC HB0
    obtain ⟨c0, c1, c2, c3, c4, c5, c6, c7, c8, c9, c10⟩ := HB1.out
    have hlt1 : w.heap.size < w1.heap.size := lt_of_cell c0
    rcases hk with hk | hk
    · have hT := hT1 hk
      have CB1 := hid (fun W h => CB.out W h hk)
      clear CB
      obtain ⟨BV, hBV⟩ : ∃ BV, bodyL f.S = BV := ⟨_, rfl⟩
      rw [hBV] at CB1
      rw [hBV] at hT
      have hTl : P.length + BV.length = T.length := by rw [← hT, List.length_append]
      have HT := hid hT
      have HTl := hid hTl
      have hPB : P.length + BV.length ≤ 90000 := by omega
      clear hT hT1 hT2 hBV hTl
      obtain ⟨z1, z2, kz⟩ := two_rd w1 .u8 .u64 1 f.knd f.frm f.stp 5 25
      rw [hk] at z1 z2 kz CP
      have hz := kz.size
      go_wp2_with fail
      refine (CP.out _ _ _ z1 z2).mono ?_
      rintro _ w2 ⟨A2, d2, rfl, ho2, hb2⟩
      have hb12 : Below w1.heap.size w1 w2 := kz.trans (hb2.mono kz.size)
      have k2 : Below w.heap.size w w2 := k1.trans (hb12.mono k1.size)
      have HB2 := hid (HB1.out.below hb12 hlt1)
      have HO2 := hid (own_base ho2 (show w.heap.size ≤ _ by have := k1.size; omega))
      clear hb2 kz hb12 ho2 c0 c1 c2 c3 c4 c5 c6 c7 c8 c9 c10 CP HB1 hlt1 k1 z1 z2 hz
      obtain ⟨c0, c1, c2, c3, c4, c5, c6, c7, c8, c9, c10⟩ := HB2.out
      have hlt2 : w.heap.size < w2.heap.size := lt_of_cell c0
      have CB2 := hid (CB1.out w2 k2)
      clear CB1
      go_wp2_with fail
      refine CB2.out.mono ?_
      rintro _ w3 ⟨A3, d3, rfl, ho3, hb3⟩
      have h0 := own_on HO2.out hb3
      have hr3 := own_rd ho3
      have k3 : Below w.heap.size w w3 := k2.trans (hb3.mono k2.size)
      have hks := k3.size
      clear CB2 c0 c1 c2 c3 c4 c5 c6 c7 c8 c9 c10
      go_wp2_with (at_builtin; refine wpList_app (Value.int .u8) (fun _ => rfl) _ rfl _ _ 50 rfl w.heap.size 5 (.int .u8 0) 1 Tryz.underlying50 info_u8 rfl P _ _ rfl h0 BV _ d3 _ rfl hr3 (by simp [maxLen]; omega) (by simp; omega) (hks) ?_)
      rintro Z A4 d4 w4 hZ ho4 hb4 _
      have k4 := k3.trans hb4
      obtain rfl : Z = T := by rw [hZ, HT.out]
      have CS4 := hid (CS.out A4 d4 w4 (own_rd ho4))
      clear CS hZ h0 hr3 ho4 HT
      go_wp2_with fail
      refine CS4.out.mono ?_
      rintro _ w5 ⟨A5, d5, rfl, ho5, hb5⟩
      have HO5 := hid (own_base ho5 k4.size)
      clear ho5
      go_wp2_with fail
      go_ret2
      exact ⟨A5, d5, rfl, HO5.out, k4.trans (hb5.mono k4.size)⟩
    · obtain rfl := hT2 hk
      clear hT1 hT2 CB
      obtain ⟨z1, z2, kz⟩ := two_rd w1 .u8 .u64 1 f.knd f.frm f.stp 5 25
      rw [hk] at z1 z2 kz CP
      have hz := kz.size
      go_wp2_with fail
      refine (CP.out _ _ _ z1 z2).mono ?_
      rintro _ w2 ⟨A2, d2, rfl, ho2, hb2⟩
      have hb12 : Below w1.heap.size w1 w2 := kz.trans (hb2.mono kz.size)
      have k2 : Below w.heap.size w w2 := k1.trans (hb12.mono k1.size)
      have HB2 := hid (HB1.out.below hb12 hlt1)
      have HO2 := hid (own_base ho2 (show w.heap.size ≤ _ by have := k1.size; omega))
      clear hb2 kz hb12 ho2 c0 c1 c2 c3 c4 c5 c6 c7 c8 c9 c10 CP HB1 hlt1 k1 z1 z2 hz
      obtain ⟨c0, c1, c2, c3, c4, c5, c6, c7, c8, c9, c10⟩ := HB2.out
      have hlt2 : w.heap.size < w2.heap.size := lt_of_cell c0
      have CS4 := hid (CS.out A2 d2 w2 (own_rd HO2.out))
      clear CS
      go_wp2_with fail
      refine CS4.out.mono ?_
      rintro _ w5 ⟨A5, d5, rfl, ho5, hb5⟩
      have HO5 := hid (own_base ho5 k2.size)
      clear ho5
      go_wp2_with fail
      go_ret2
      exact ⟨A5, d5, rfl, HO5.out, k2.trans (hb5.mono k2.size)⟩
  · have hc1 : chkF f = 1 := chkF_no (fun h => hc (chkF_ok.2 h))
    rw [if_neg hc, if_neg hc]
    rw [hc1] at CC
    clear hc hc1 ra rb hn hw
    go_enter Tryz.func29, Tryz.ntmps29
    go_wp2_with fail
    refine (CC.out _ (by go_grown)).mono ?_
    rintro _ w1 ⟨rfl, hb1⟩
    go_wp2_with fail
    go_ret2
    exact .nil (Below.trans (by go_grown) (hb1.mono (by simp)))
end Go.Proofs.YtecgbelgoomneaaGreat
/- What is pressed goes as a frame. Plain mathematics. -/
namespace Go.Proofs.YtecgbelgoomneaaGreat
open Go.RowKit
set_option maxRecDepth 100000
set_option linter.unusedVariables false
theorem pp_short {sch k wide : Int} {v : List Int} {s : Nat} {n : List Int} (h : ppE sch k wide v = 0) : (ppS sch k wide v s n).L.length ≤ v.length ∧ (ppS sch k wide v s n).V.length ≤ v.length ∧ (ppS sch k wide v s n).lev.length ≤ v.length ∧ (ppS sch k wide v s n).neg.length ≤ v.length := by
  rw [pp_is h]
  obtain ⟨h1, hp, h3⟩ := ppE_ok.1 h
  have h0 : v ≠ [] := fun e => by have := hp.1; rw [e] at this; simp at this
  unfold wayE at h3
  unfold wayS
  by_cases s1 : sch = 1
  · rw [if_pos s1] at h3 ⊢
    have hk : pikE v k = 0 := by unfold prsE at h3; rwa [if_neg h0] at h3
    obtain ⟨_, e⟩ := prs_ok h0 hk
    have hl := pikV_len hk
    have hk2 := pikE_ok.1 hk
    rw [e]
    refine ⟨by show (pikV v k).length ≤ _; omega, ?_, by simp, by simp⟩
    show (atL v (pikV v k)).length ≤ _
    unfold atL
    rw [List.length_map]
    omega
  · rw [if_neg s1] at h3 ⊢
    by_cases s2 : sch = 2
    · rw [if_pos s2] at h3 ⊢
      rw [prq_parts h3]
      refine ⟨by simp, by simp, ?_, ?_⟩
      · show (levQ v wide s n v.length).length ≤ _; rw [levQ_len]; exact Nat.le_refl _
      · show (negQ v v.length).length ≤ _; rw [negQ_len]; exact Nat.le_refl _
    · rw [if_neg s2] at h3 ⊢
      by_cases s3 : sch = 3
      · rw [if_pos s3] at h3 ⊢
        rw [show sgS v = ⟨3, v.length, [], [], mnV v, 0, [], sgN v⟩ from if_pos h3]
        refine ⟨by simp, by simp, by simp, ?_⟩
        show (sgN v).length ≤ _; rw [sgN_len]; exact Nat.le_refl _
      · rw [if_neg s3]
        exact ⟨by show ([] : List Int).length ≤ _; simp, by show v.length ≤ _; exact Nat.le_refl _, by show ([] : List Int).length ≤ _; simp, by show ([] : List Bool).length ≤ _; simp⟩
theorem pp_frame {sch k wide : Int} {v : List Int} {s : Nat} {n : List Int} (hw1 : I64 wide) (uv : ∀ x ∈ v, I64 x) (h : ppE sch k wide v = 0) (h2 : v.length ≤ 200) {f : FrameV} (hf : f = ⟨1, 0, 0, ppS sch k wide v s n⟩) :
    wfF f ∧ lnS 500 f.S ∧ wrtE f = 0 ∧ rdR (wrtV f) = (f, 0) ∧ U8s (wrtV f) ∧ (wrtV f).length ≤ 65540 := by
  subst hf
  obtain ⟨m1, _, _⟩ := pp_may (seed := s) (n := n) uv h
  have m2 := pp_wf (sch := sch) (k := k) (s := s) (n := n) hw1 uv
  obtain ⟨l1, l2, l3, l4⟩ := pp_short (s := s) (n := n) h
  have hln : lnS 500 (ppS sch k wide v s n) := ⟨by omega, by omega, by omega, by omega⟩
  have hw : wfF ⟨1, 0, 0, ppS sch k wide v s n⟩ := ⟨by show I64 1; decide, by show I64 0; decide, by show I64 0; decide, m2⟩
  have hV : (FrameV.mk 1 0 0 (ppS sch k wide v s n)).S.V.length ≤ 1000 := by show (ppS sch k wide v s n).V.length ≤ 1000; omega
  have hc : chkF ⟨1, 0, 0, ppS sch k wide v s n⟩ = 0 := if_pos ⟨by show (0 : Int) ≤ 0; omega, by show (0 : Int) < 64; omega, by show (0 : Int) ≤ 0; omega, by show (0 : Int) ≤ 1073741824; omega, .inl ⟨rfl, m1⟩⟩
  have hE := (wrt_ok hw hV).1.2 hc
  obtain ⟨r1, r2, r3, _⟩ := rd_wrt hw hV hE
  have h3 := text_len hc hw hV
  exact ⟨hw, hln, hE, r1, r2, by omega⟩
end Go.Proofs.YtecgbelgoomneaaGreat
