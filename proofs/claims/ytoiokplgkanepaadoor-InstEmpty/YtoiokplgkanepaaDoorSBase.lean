/-
  In a seat whose program has rows of numbers too: SBase's words are those of Base, App and App2.
-/
import Derived.Test.YtoiokplgkanepaaDoorApp2
import Derived.Maps.AppendAt
namespace Go.Proofs.YtoiokplgkanepaaDoor
end Go.Proofs.YtoiokplgkanepaaDoor
