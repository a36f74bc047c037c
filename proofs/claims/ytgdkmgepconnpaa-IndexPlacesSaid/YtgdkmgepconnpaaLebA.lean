
/- leb's functions that tell numbers alone, and a code behind a text of the call's own. -/
import Derived.Test.YtgdkmgepconnpaaLebM
import Derived.Test.YtgdkmgepconnpaaApp
import Derived.Test.YtgdkmgepconnpaaSame
import Derived.Test.YtgdkmgepconnpaaShelf
import Derived.WalkSpells
import Derived.WalkLawsBesides
import Derived.Laws.Bits64b
namespace Go.Proofs.Ytgdkmgepconnpaa
open Go.RowKit
set_option maxHeartbeats 400000
set_option linter.unusedVariables false
theorem not_i64 {n : Int} (h : I64 n) : bits BinOp.xor IntKind.i64 (-1) n = -n - 1 := by
  unfold I64 at h
  show IntKind.i64.wrap ((BitVec.ofInt 64 (-1) ^^^ BitVec.ofInt 64 n).toNat : Int) = _
  rw [show BitVec.ofInt 64 (-1) = BitVec.allOnes 64 from rfl, BitVec.allOnes_xor, BitVec.toNat_not, BitVec.toNat_ofInt, IntKind.wrap_i64]
  omega
theorem or_one {m : Int} (h0 : 0 ≤ m) (h1 : m ≤ 9223372036854775807) : bits BinOp.or IntKind.u64 (m * 2) 1 = m * 2 + 1 :=
  bits_join .u64 64 (by decide) (fun n h0 h1 => by rw [IntKind.wrap_u64]; omega) 1 _ _ (by omega) (by omega) (by omega) (by omega) (by omega) (by omega)
theorem leb_Size (n : Int) (hn : U64 n) (w : World) :
    Calls Try.prog 46 #[.int .u64 n] w fun e w' => e = .returned (.int .i64 ((lebI n).length : Int)) ∧ w = w' := by
  have hb := lebI_bits hn
  have ht := lebI_ten hn
  have CL := hid (Try.bits_Len64 (max n 1))
  unfold U64 at hn
  obtain ⟨L, hL⟩ : ∃ L, Lib.bitLen (max n 1).toNat = L := ⟨_, rfl⟩
  rw [hL] at hb CL
  have h1 : 0 ≤ max n 1 := by omega
  have h2 : max n 1 ≤ 18446744073709551615 := by omega
  have h3 : L ≤ 70 := by omega
  have HB := hid hb
  clear hL hb
  go_enter Try.func46, Try.ntmps46
  go_wp2_with fail
  refine (CL.out _ h1 h2).mono ?_
  rintro _ _ ⟨rfl, rfl⟩
  go_wp2_with fail
  go_ret
  exact ⟨ret1 (by rw [HB.out]; omega), rfl⟩
theorem or_more (x : Int) : bits BinOp.or IntKind.u8 (x % 256) 128 = x % 128 + 128 := by
  have hd : ∀ b : Fin 256, bits BinOp.or IntKind.u8 (b.val : Int) 128 = (b.val : Int) % 128 + 128 := by decide +kernel
  have := hd ⟨(x % 256).toNat, by omega⟩
  simp only at this
  rw [show (((x % 256).toNat : Nat) : Int) = x % 256 by omega] at this
  rw [this]
  omega
/-- One thing appended to a list of the call's own. -/
theorem code_any (base : Nat) (ys : List Int) (n : Int) (A0 : Option Addr) (c0 : Nat) (w : World) (hown : w.ownsRow base 5 1 (.slice A0 ys.length c0) ys.length (ys.map (Value.int .u8))) (hl : ys.length ≤ 100000) (hn : U64 n) (hbase : base ≤ w.heap.size) :
    Calls Try.prog 47 #[.slice A0 ys.length c0, .int .u64 n] w (OwnOf 5 .u8 base (ys ++ lebI n) w) := by
  have HT := hid (lebI_ten hn)
  have HO := hid hown
  obtain ⟨R, hR⟩ : ∃ R, ys ++ lebI n = R := ⟨_, rfl⟩
  have hRl : R.length ≤ 100010 := by rw [← hR, List.length_append]; have := HT.out; omega
  rw [hR]
  have HR := hid hR
  clear hR hown
  go_enter Try.func47, Try.ntmps47
  go_wp2_with fail
  go_loopw [0, 1] (fun t m wr => ∃ (S : List Int) (x : Int) (A : Option Addr) (c : Nat), 0 ≤ x ∧ x ≤ 18446744073709551615 ∧ m = .int .u64 x ∧ t = .slice A S.length c ∧ wr.ownsRow base 5 1 (.slice A S.length c) S.length (S.map (Value.int .u8)) ∧ S ++ lebI x = R ∧ Below base w wr) (fun _ m _ => (intOf m).toNat)
  case atStart => exact ⟨ys, n, A0, c0, hn.1, hn.2, rfl, rfl, HO.out, HR.out, Below.refl _ _⟩
  case round =>
    obtain ⟨S, x, A, c, h0, h1, rfl, rfl, ho, hs, hb⟩ := hrel
    have HO := hid ho
    have HS := hid hs
    have hlS : S.length < 100010 := by have := lebI_pos x h0; rw [← hs, List.length_append] at hRl; omega
    clear ho hs
    by_cases hlt : 128 ≤ x
    · have e1 := or_more x
      have hr0 : Rd (Value.int .u8) (wr.alloc (.cells #[.int .u8 (x % 128 + 128)] 5)) _ (some ⟨wr.heap.size, 0, none⟩) [x % 128 + 128] := rd_one (one_cell wr (.int .u8 (x % 128 + 128)) 5).1
      have h0' := own_on HO.out ((Below.refl wr.heap.size wr).alloc (Nat.le_refl _) (.cells #[.int .u8 (x % 128 + 128)] 5))
      go_wp2_with (at_builtin; refine wpList_app (Value.int .u8) (fun _ => rfl) _ rfl _ _ 23 rfl base 5 (.int .u8 0) 1 Try.underlying23 info_u8 rfl S _ _ rfl h0' [x % 128 + 128] _ 1 _ rfl hr0 (by simp [maxLen]; omega) (by simp; omega) (by have := hb.size; simp; omega) ?_)
      clear e1 h0' hr0
      rintro S' A' c' w1 hS' ho hb1 _
      have HS' := hid hS'
      have HO' := hid ho
      clear hS' ho
      go_wp2_with fail
      go_roundw
      case rel =>
        refine ⟨S', x / 128, A', c', by omega, by omega, rfl, rfl, HO'.out, ?_, (hb.alloc (Nat.le_trans hbase hb.size) _).trans hb1⟩
        rw [HS'.out, ← HS.out, lebI_more hlt]
        simp
      case measure => simp [intOf]; omega
    · have e1 : x % 256 = x := by omega
      have hr0 : Rd (Value.int .u8) (wr.alloc (.cells #[.int .u8 x] 5)) _ (some ⟨wr.heap.size, 0, none⟩) [x] := rd_one (one_cell wr (.int .u8 x) 5).1
      have h0' := own_on HO.out ((Below.refl wr.heap.size wr).alloc (Nat.le_refl _) (.cells #[.int .u8 x] 5))
      go_wp2_with (at_builtin; refine wpList_app (Value.int .u8) (fun _ => rfl) _ rfl _ _ 23 rfl base 5 (.int .u8 0) 1 Try.underlying23 info_u8 rfl S _ _ rfl h0' [x] _ 1 _ rfl hr0 (by simp [maxLen]; omega) (by simp; omega) (by have := hb.size; simp; omega) ?_)
      clear e1 h0' hr0
      rintro S' A' c' w1 hS' ho hb1 _
      have HS' := hid hS'
      have HO' := hid ho
      clear hS' ho
      go_wp2_with fail
      go_ret
      have e : S' = R := by rw [HS'.out, ← HS.out, lebI_last h0 (by omega)]
      subst e
      exact ⟨A', c', rfl, HO'.out, (hb.alloc (Nat.le_trans hbase hb.size) _).trans hb1⟩
end Go.Proofs.Ytgdkmgepconnpaa
