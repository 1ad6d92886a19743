/-
  The contracts of Select, and of the document's Select.
-/
import Derived.Test.YtafpecdmaogohaaGreatRelVals
namespace Go.Proofs.YtafpecdmaogohaaGreat
open Go.RowKit
set_option linter.unusedVariables false
set_option linter.unusedSimpArgs false
set_option maxRecDepth 20000

/-- Has the row this value at place p? (All have, if p is none.) -/
def selB (p x : Int) (t : List Int) : Bool := decide (p < 0) || decide (pickL t [p] = [x])
def selL (s : List Int) (ll : List (List Int)) (v x : Int) : List (List Int) := ll.filter (selB (placeL s v) x)

theorem filter_snoc {α : Type} {l : List α} {f : α → Bool} {k : Nat} (hk : k < l.length) : (l.take (k + 1)).filter f = (l.take k).filter f ++ if f l[k] then [l[k]] else [] := by
  rw [List.take_succ_eq_append_getElem hk, List.filter_append]
  by_cases h : f l[k] <;> simp [List.filter_cons, h]

theorem sortL_asc {ll : List (List Int)} (h : AscL ll) : sortL ll = ll := AscL.ext (sortL_spec ll).1 h (sortL_spec ll).2

end Go.Proofs.YtafpecdmaogohaaGreat
