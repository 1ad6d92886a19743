/-
  The contract of Clique.
-/
import Derived.Test.YtcglbopmfdilfaaDoorGThree
namespace Go.Proofs.YtcglbopmfdilfaaDoor
open Go.RowKit
set_option linter.unusedVariables false
set_option linter.unusedSimpArgs false
set_option maxRecDepth 20000

theorem getD_at {g : List Nat} {k : Nat} (hk : k < g.length) : g[k] = g.getD k 0 := by rw [List.getD_eq_getElem?_getD, List.getElem?_eq_getElem hk]; rfl

end Go.Proofs.YtcglbopmfdilfaaDoor
