/-
  A number that is handed in.
-/
import Derived.Test.YtcglbopmfdilfaaDoorFrame
namespace Go.Proofs.YtcglbopmfdilfaaDoor
open Go.RowKit Go.ChangeShapes Go.WideShapes Go.ChangeAt Go.WideElems
set_option linter.unusedVariables false
set_option linter.unusedSimpArgs false
set_option maxRecDepth 100000

theorem read_int {H : Type} {enc : TypeId × Value → H} {W : World} {v : Value} {d : DataW H} {ps : List MemPlace} {base b0 : Nat} {held : Bool} {r : Reach} (h : DataW.Trod enc Tryd.prog W base (fun _ => true) held 3 v d ps) (hv : Value.okWide Tryd.prog W r b0 3 v) :
    ∃ n, v = .int .i64 n ∧ InI64 n := by
  obtain ⟨n, hv, _, _, hw⟩ := open_int Tryd.underlying3 hv h
  exact ⟨n, hv, wf_in hw⟩

end Go.Proofs.YtcglbopmfdilfaaDoor
