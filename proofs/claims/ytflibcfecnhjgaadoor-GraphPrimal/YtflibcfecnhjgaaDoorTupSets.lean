/-
  The contracts of Rising, Unite, Meet, Without, Within: the program's.
-/
import Derived.Test.YtflibcfecnhjgaaDoorApp
import Derived.Test.YtflibcfecnhjgaaDoorSets
namespace Go.Proofs.YtflibcfecnhjgaaDoor
open Go.RowKit
set_option linter.unusedVariables false
set_option linter.unusedSimpArgs false

end Go.Proofs.YtflibcfecnhjgaaDoor
