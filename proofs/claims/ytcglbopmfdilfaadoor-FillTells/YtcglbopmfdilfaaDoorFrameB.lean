/-
  A truth that is handed in.
-/
import Derived.Test.YtcglbopmfdilfaaDoorFrame
namespace Go.Proofs.YtcglbopmfdilfaaDoor
open Go.RowKit Go.ChangeShapes Go.WideShapes Go.ChangeAt Go.WideElems
set_option linter.unusedVariables false
set_option linter.unusedSimpArgs false
set_option maxRecDepth 100000

theorem read_bool {H : Type} {enc : TypeId × Value → H} {W : World} {v : Value} {d : DataW H} {ps : List MemPlace} {base b0 : Nat} {held : Bool} {r : Reach} (h : DataW.Trod enc Tryd.prog W base (fun _ => true) held 4 v d ps) (hv : Value.okWide Tryd.prog W r b0 4 v) :
    ∃ b : Bool, v = .bool b := by
  obtain ⟨b, hv, _, _⟩ := open_bool Tryd.underlying4 hv h
  exact ⟨b, hv⟩

end Go.Proofs.YtcglbopmfdilfaaDoor
