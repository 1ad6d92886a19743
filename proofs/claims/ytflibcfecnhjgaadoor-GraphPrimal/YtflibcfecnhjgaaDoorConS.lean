/-
  Constraints, soft ones, instances, as plain data.
-/
import Derived.Test.YtflibcfecnhjgaaDoorLists
namespace Go.Proofs.YtflibcfecnhjgaaDoor
set_option linter.unusedVariables false

structure Con where
  kind : Int
  scope : List Int
  rows : List (List Int)
  args : List Int
deriving DecidableEq

structure Sft where
  scope : List Int
  rows : List (List Int)
  costs : List Int
  dflt : Int
deriving DecidableEq

structure Ins where
  doms : List (List Int)
  hard : List Con
  soft : List Sft
deriving DecidableEq

end Go.Proofs.YtflibcfecnhjgaaDoor
