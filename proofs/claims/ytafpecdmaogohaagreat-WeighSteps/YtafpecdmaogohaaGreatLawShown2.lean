/-
  The contract of shown: it answers true.
-/
import Derived.Test.YtafpecdmaogohaaGreatRefUnion
import Derived.Test.YtafpecdmaogohaaGreatRefMake
import Derived.Test.YtafpecdmaogohaaGreatRelUnit
namespace Go.Proofs.YtafpecdmaogohaaGreat
open Go.RowKit
set_option linter.unusedVariables false
set_option linter.unusedSimpArgs false
set_option maxRecDepth 20000

theorem shown_rise : riseL [2, 0] = [0, 2] := Asc.ext (riseL_spec _).1 (by decide) fun x => by rw [(riseL_spec _).2]; simp; omega
theorem shown_rise1 : riseL [1, 1] = [1] := Asc.ext (riseL_spec _).1 (by decide) fun x => by rw [(riseL_spec _).2]; simp
theorem shown_ok : makeOk [2, 0] [[5, 1], [5, 1]] = true := by unfold makeOk schemeOk; rw [shown_rise]; decide
theorem shown_no : makeOk [1, 1] [] = false := by unfold makeOk schemeOk; rw [shown_rise1]; decide
theorem shown_rows : makeL [2, 0] [[5, 1], [5, 1]] = [[1, 5]] := by unfold makeL; rw [shown_rise]; decide
theorem shown_right : rightL [0, 2] [[1, 5]] = true := by decide
theorem shown_has : hasL [[1, 5]] [1, 5] = true := by decide
theorem shown_wrong : rightL [1, 0] [] = false := by decide

end Go.Proofs.YtafpecdmaogohaaGreat
