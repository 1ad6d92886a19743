/-
  The contract of partFrom: its walk.
-/
import Derived.Test.YtcglbopmfdilfaaDoorGPart
namespace Go.Proofs.YtcglbopmfdilfaaDoor
open Go.RowKit
set_option linter.unusedVariables false
set_option linter.unusedSimpArgs false
set_option maxRecDepth 20000

end Go.Proofs.YtcglbopmfdilfaaDoor
