/-
  The contracts of the document's Make and Right.
-/
import Derived.Test.YtafpecdmaogohaaGreatRelMake
namespace Go.Proofs.YtafpecdmaogohaaGreat
open Go.RowKit
set_option linter.unusedVariables false
set_option linter.unusedSimpArgs false
set_option maxRecDepth 20000

theorem headB_at {u : List Int} (h : 0 < u.length) : headB u = decide ((0 : Int) ≤ u[0]) := by
  cases u with
  | nil => simp at h
  | cons x r => rfl
theorem headB_nil {u : List Int} (h : ¬ 0 < u.length) : headB u = true := by
  cases u with
  | nil => rfl
  | cons x r => simp at h

end Go.Proofs.YtafpecdmaogohaaGreat
