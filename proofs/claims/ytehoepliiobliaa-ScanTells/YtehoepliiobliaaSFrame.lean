/-
  What is handed in: strings and numbers.
-/
import Derived.Test.YtehoepliiobliaaSBase
import Derived.ProofKit
import Derived.OpenShut
import Derived.ShutString
import Derived.ChangeOld
namespace Go.Proofs.Ytehoepliiobliaa
open Go.RowKit Go.ChangeShapes Go.WideShapes Go.ChangeAt
set_option linter.unusedVariables false
set_option linter.unusedSimpArgs false

theorem own : ownKnob Try.prog.godebug = none := by kernel_rfl
theorem laidOut : laidOutB Try.prog = true := by kernel_rfl

def InI64 (n : Int) : Prop := -9223372036854775808 ≤ n ∧ n ≤ 9223372036854775807
theorem wf_in {n : Int} (h : (Lit.int .i64 n).wf = true) : InI64 n := by unfold InI64; simpa [Lit.wf, IntKind.min, IntKind.max, IntKind.signed, IntKind.bits] using h

theorem read_int {H : Type} {enc : TypeId × Value → H} {W : World} {v : Value} {d : DataW H} {ps : List MemPlace} {base b0 : Nat} {held : Bool} {r : Reach} (h : DataW.Trod enc Try.prog W base (fun _ => true) held 3 v d ps) (hv : Value.okWide Try.prog W r b0 3 v) :
    ∃ n, v = .int .i64 n ∧ InI64 n := by
  obtain ⟨n, hv, _, _, hw⟩ := open_int Try.underlying3 hv h
  exact ⟨n, hv, wf_in hw⟩

theorem read_string {H : Type} {enc : TypeId × Value → H} {W : World} {v : Value} {d : DataW H} {ps : List MemPlace} {base b0 : Nat} {held : Bool} {r : Reach} (h : DataW.Trod enc Try.prog W base (fun _ => true) held 9 v d ps) (hv : Value.okWide Try.prog W r b0 9 v) :
    ∃ s : ByteArray, v = .string s ∧ s.size ≤ maxLen := by
  obtain ⟨s, hv, _, _, hs⟩ := Go.ChangeMaps.open_string Try.underlying9 hv h
  exact ⟨s, hv, hs⟩

end Go.Proofs.Ytehoepliiobliaa
