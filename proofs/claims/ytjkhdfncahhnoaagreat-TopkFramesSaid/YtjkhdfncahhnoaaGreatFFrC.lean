
/- FFrC: texts joined: FrC. -/
import Derived.Test.YtjkhdfncahhnoaaGreatFFrA
import Derived.Test.YtjkhdfncahhnoaaGreatFFrB
import Derived.Test.YtjkhdfncahhnoaaGreatFb
import Derived.Deep.QuietTactic
import Derived.BigQuiet
/- Whether levels may be; whether any vector may be, a frame may be, and is the same; an acknowledgement: by the document. -/
namespace Go.Proofs.YtjkhdfncahhnoaaGreat
open Go.RowKit
set_option maxHeartbeats 400000
set_option maxRecDepth 100000
set_option linter.unusedVariables false
theorem fitsT_step {wd : Int} {l : List Int} {k : Nat} {x : Int} (h : fitsB wd (l.take k) = true) (hx : l[k]? = some x) (hw : (wdt x : Int) ≤ wd) : fitsB wd (l.take (k + 1)) = true := by
  unfold fitsB at h ⊢
  rw [List.take_add_one, hx, List.all_append, h]
  simp [hw]
theorem fitsT_no {wd : Int} {l : List Int} {k : Nat} {x : Int} (hx : l[k]? = some x) (hw : wd < (wdt x : Int)) : fitsB wd l = false := by
  unfold fitsB
  rw [List.all_eq_false]
  exact ⟨x, List.mem_of_getElem? hx, by simp; omega⟩
/-- What the box of a vector still holds. -/
def Box4 (w : World) (b : Nat) (dim scale wide : Int) (AN : Option Addr) (n c : Nat) : Prop := w.cell? ⟨b, 1, none⟩ = some (.int .i64 dim) ∧ w.cell? ⟨b, 4, none⟩ = some (.int .i64 scale) ∧ w.cell? ⟨b, 5, none⟩ = some (.int .i64 wide) ∧ w.cell? ⟨b, 7, none⟩ = some (.slice AN n c)
end Go.Proofs.YtjkhdfncahhnoaaGreat
