/-
  No cell of these rows narrows 'for every input' (looked for: loops, veiled, ifaces, maps, wideKeys, modest, calm, conditions, laid).
  DERIVED. THE GIVEN ROWS OF THIS SEAT. 6 by the template 'for every input the law returns true; each argument reads behind the call as it read before'; 0 by the template 'total and deterministic' (their statements: YtgmbflpngedhnaaGreatTotals.lean).
  GIVEN WITH THE SEED: the statements are not yours to turn. If you find one false, say at which input.
  Laid BY PROGRAM, IN A SANDBOX (cutbox-rows.mjs): the forced cells as the released guide's own fill.sh prints them over the translation e388a7e09b738164… (all of the seat's roots in one cut). By AI agents, Wed Nov 11 2026. No macro, syntax, notation, axiom, sorry.
-/
import Derived.Test.YtgmbflpngedhnaaGreatChecked
import GoSem.Claim
import GoSem.ClaimJoined
import GoSem.ClaimMapViews
import Derived.JoinedTies
import Derived.KernelRfl
namespace Go.Proofs.YtgmbflpngedhnaaGreat
/- THE CELL 'sum', in the pinned program and in every row, IS THE sha256 OF THE DUMP (.gsa) THAT YtgmbflpngedhnaaGreatProg.lean LOADS. Nothing in Lean hashes anything: it is a label: what it is worth is what the hold of that sum in a sandbox is worth. -/
noncomputable def Tryz.pinned : Pinned := { name := "ytgmbflpngedhnaagreat", sum := "e388a7e09b738164741cdbf1f8ce566c84bf6f7a5090a89f648926cb141129bc", checked := Tryz.checked }
namespace Rows
def none {H : Type} : Left H := { results := [], args := [] }

/-- 'arboristlaw04.WeighTimes': WHATEVER THE INPUT: true; the input reads as it did. -/
def weighTimesSpec : ChangeSpec := { name := "weighTimes", fn := fun _ => fun
  | [d1, d2, d3] => { results := [.lit (.bool true)], args := [d1, d2, d3] }
  | _ => none }
def weighTimesRow : OpenClaim := { program := "ytgmbflpngedhnaagreat", sum := "e388a7e09b738164741cdbf1f8ce566c84bf6f7a5090a89f648926cb141129bc", func := "arborist/arboristlaw04.WeighTimes", spec := "weighTimes", inPlace := ["math.Float64bits", "math.Float64frombits", "math.archTrunc"], unfollowed := true, recurses := true, apart := false }
def WeighTimesSaid : Prop := weighTimesRow.holds Tryz.pinned (OpenSpec.ofChange weighTimesSpec)

/-- ITS FALSE NEIGHBOUR: 'it returns false'. Refute it at one input. -/
def weighTimesWrong : ChangeSpec := { name := "weighTimes", fn := fun _ => fun
  | [d1, d2, d3] => { results := [.lit (.bool false)], args := [d1, d2, d3] }
  | _ => none }
def WeighTimesWrongFalsely : Prop := weighTimesRow.holds Tryz.pinned (OpenSpec.ofChange weighTimesWrong)

/-- 'arboristlaw04.WeighPhases': WHATEVER THE INPUT: true; the input reads as it did. -/
def weighPhasesSpec : ChangeSpec := { name := "weighPhases", fn := fun _ => fun
  | [d1, d2, d3, d4] => { results := [.lit (.bool true)], args := [d1, d2, d3, d4] }
  | _ => none }
def weighPhasesRow : OpenClaim := { program := "ytgmbflpngedhnaagreat", sum := "e388a7e09b738164741cdbf1f8ce566c84bf6f7a5090a89f648926cb141129bc", func := "arborist/arboristlaw04.WeighPhases", spec := "weighPhases", inPlace := ["math.Float64bits", "math.Float64frombits", "math.archTrunc"], unfollowed := true, recurses := true, apart := false }
def WeighPhasesSaid : Prop := weighPhasesRow.holds Tryz.pinned (OpenSpec.ofChange weighPhasesSpec)

/-- ITS FALSE NEIGHBOUR: 'it returns false'. Refute it at one input. -/
def weighPhasesWrong : ChangeSpec := { name := "weighPhases", fn := fun _ => fun
  | [d1, d2, d3, d4] => { results := [.lit (.bool false)], args := [d1, d2, d3, d4] }
  | _ => none }
def WeighPhasesWrongFalsely : Prop := weighPhasesRow.holds Tryz.pinned (OpenSpec.ofChange weighPhasesWrong)

/-- 'arboristlaw04.WeighSums': WHATEVER THE INPUT: true; the input reads as it did. -/
def weighSumsSpec : ChangeSpec := { name := "weighSums", fn := fun _ => fun
  | [d1, d2] => { results := [.lit (.bool true)], args := [d1, d2] }
  | _ => none }
def weighSumsRow : OpenClaim := { program := "ytgmbflpngedhnaagreat", sum := "e388a7e09b738164741cdbf1f8ce566c84bf6f7a5090a89f648926cb141129bc", func := "arborist/arboristlaw04.WeighSums", spec := "weighSums", inPlace := ["math.Float64bits", "math.Float64frombits", "math.archTrunc"], unfollowed := true, recurses := true, apart := false }
def WeighSumsSaid : Prop := weighSumsRow.holds Tryz.pinned (OpenSpec.ofChange weighSumsSpec)

/-- ITS FALSE NEIGHBOUR: 'it returns false'. Refute it at one input. -/
def weighSumsWrong : ChangeSpec := { name := "weighSums", fn := fun _ => fun
  | [d1, d2] => { results := [.lit (.bool false)], args := [d1, d2] }
  | _ => none }
def WeighSumsWrongFalsely : Prop := weighSumsRow.holds Tryz.pinned (OpenSpec.ofChange weighSumsWrong)

/-- 'arboristlaw04.WeighRights': WHATEVER THE INPUT: true; the input reads as it did. -/
def weighRightsSpec : ChangeSpec := { name := "weighRights", fn := fun _ => fun
  | [d1, d2, d3] => { results := [.lit (.bool true)], args := [d1, d2, d3] }
  | _ => none }
def weighRightsRow : OpenClaim := { program := "ytgmbflpngedhnaagreat", sum := "e388a7e09b738164741cdbf1f8ce566c84bf6f7a5090a89f648926cb141129bc", func := "arborist/arboristlaw04.WeighRights", spec := "weighRights", inPlace := ["math.Float64bits", "math.Float64frombits", "math.archTrunc"], unfollowed := true, recurses := true, apart := false }
def WeighRightsSaid : Prop := weighRightsRow.holds Tryz.pinned (OpenSpec.ofChange weighRightsSpec)

/-- ITS FALSE NEIGHBOUR: 'it returns false'. Refute it at one input. -/
def weighRightsWrong : ChangeSpec := { name := "weighRights", fn := fun _ => fun
  | [d1, d2, d3] => { results := [.lit (.bool false)], args := [d1, d2, d3] }
  | _ => none }
def WeighRightsWrongFalsely : Prop := weighRightsRow.holds Tryz.pinned (OpenSpec.ofChange weighRightsWrong)

/-- 'arboristlaw04.WeighParts': WHATEVER THE INPUT: true; the input reads as it did. -/
def weighPartsSpec : ChangeSpec := { name := "weighParts", fn := fun _ => fun
  | [d1, d2] => { results := [.lit (.bool true)], args := [d1, d2] }
  | _ => none }
def weighPartsRow : OpenClaim := { program := "ytgmbflpngedhnaagreat", sum := "e388a7e09b738164741cdbf1f8ce566c84bf6f7a5090a89f648926cb141129bc", func := "arborist/arboristlaw04.WeighParts", spec := "weighParts", inPlace := ["math.Float64bits", "math.Float64frombits", "math.archTrunc"], unfollowed := true, recurses := true, apart := false }
def WeighPartsSaid : Prop := weighPartsRow.holds Tryz.pinned (OpenSpec.ofChange weighPartsSpec)

/-- ITS FALSE NEIGHBOUR: 'it returns false'. Refute it at one input. -/
def weighPartsWrong : ChangeSpec := { name := "weighParts", fn := fun _ => fun
  | [d1, d2] => { results := [.lit (.bool false)], args := [d1, d2] }
  | _ => none }
def WeighPartsWrongFalsely : Prop := weighPartsRow.holds Tryz.pinned (OpenSpec.ofChange weighPartsWrong)

/-- 'arboristlaw04.WeighLeast': WHATEVER THE INPUT: true; the input reads as it did. -/
def weighLeastSpec : ChangeSpec := { name := "weighLeast", fn := fun _ => fun
  | [d1, d2] => { results := [.lit (.bool true)], args := [d1, d2] }
  | _ => none }
def weighLeastRow : OpenClaim := { program := "ytgmbflpngedhnaagreat", sum := "e388a7e09b738164741cdbf1f8ce566c84bf6f7a5090a89f648926cb141129bc", func := "arborist/arboristlaw04.WeighLeast", spec := "weighLeast", inPlace := ["math.Float64bits", "math.Float64frombits", "math.archTrunc"], unfollowed := true, recurses := true, apart := false }
def WeighLeastSaid : Prop := weighLeastRow.holds Tryz.pinned (OpenSpec.ofChange weighLeastSpec)

/-- ITS FALSE NEIGHBOUR: 'it returns false'. Refute it at one input. -/
def weighLeastWrong : ChangeSpec := { name := "weighLeast", fn := fun _ => fun
  | [d1, d2] => { results := [.lit (.bool false)], args := [d1, d2] }
  | _ => none }
def WeighLeastWrongFalsely : Prop := weighLeastRow.holds Tryz.pinned (OpenSpec.ofChange weighLeastWrong)

/- THE SECOND FORM. 'bulk': how many values and letters a reading holds, each counted each time it is reached (what is shared counts as often as it is met; a slice's spare places count too). A statement '..UptoSaid' is the law's where the arguments, and the package variables that the reading takes, are together of bulk at most 1048576: NARROWER than '..Said'. Prove '..Said' where nothing that the law and all that it calls make is longer than what came in: it says more and counts as full. Else prove '..UptoSaid'. A law counts once. -/
mutual
def uptoBulk {H : Type} : DataW H → Nat
  | .lit (.string bytes) => bytes.length + 1
  | .lit _ => 1
  | .nil => 1
  | .ptr d => uptoBulk d + 1
  | .slice elems spare => uptoBulkAll elems + uptoBulkAll spare + 1
  | .agg parts => uptoBulkAll parts + 1
  | .iface _ d => uptoBulk d + 1
  | .map entries => uptoBulkEntries entries + 1
  | .held _ => 1
def uptoBulkAll {H : Type} : List (DataW H) → Nat
  | [] => 0
  | d :: r => uptoBulk d + uptoBulkAll r
def uptoBulkEntries {H : Type} : List (Lit × DataW H) → Nat
  | [] => 0
  | x :: r => uptoBulkEntry x + uptoBulkEntries r
def uptoBulkEntry {H : Type} : Lit × DataW H → Nat
  | (.string bytes, d) => bytes.length + uptoBulk d + 1
  | (_, d) => uptoBulk d + 1
 end
def uptoSmall : (H : Type) → List (DataW H) → Bool := fun _ ds => decide (uptoBulkAll ds ≤ 1048576)
def OpenSpec.upto (s : _root_.Go.ChangeSpec) : _root_.Go.OpenSpec := { _root_.Go.OpenSpec.ofChange s with cond := some uptoSmall }

/-- 'arboristlaw04.WeighTimes', WHERE WHAT IT READS IS OF BULK AT MOST 1048576: true; the input reads as it did. -/
def weighTimesUptoRow : OpenClaim := { program := "ytgmbflpngedhnaagreat", sum := "e388a7e09b738164741cdbf1f8ce566c84bf6f7a5090a89f648926cb141129bc", func := "arborist/arboristlaw04.WeighTimes", spec := "weighTimes", inPlace := ["math.Float64bits", "math.Float64frombits", "math.archTrunc"], unfollowed := true, recurses := true, apart := false, narrowed := true }
def WeighTimesUptoSaid : Prop := weighTimesUptoRow.holds Tryz.pinned (OpenSpec.upto weighTimesSpec)

/-- 'arboristlaw04.WeighPhases', WHERE WHAT IT READS IS OF BULK AT MOST 1048576: true; the input reads as it did. -/
def weighPhasesUptoRow : OpenClaim := { program := "ytgmbflpngedhnaagreat", sum := "e388a7e09b738164741cdbf1f8ce566c84bf6f7a5090a89f648926cb141129bc", func := "arborist/arboristlaw04.WeighPhases", spec := "weighPhases", inPlace := ["math.Float64bits", "math.Float64frombits", "math.archTrunc"], unfollowed := true, recurses := true, apart := false, narrowed := true }
def WeighPhasesUptoSaid : Prop := weighPhasesUptoRow.holds Tryz.pinned (OpenSpec.upto weighPhasesSpec)

/-- 'arboristlaw04.WeighSums', WHERE WHAT IT READS IS OF BULK AT MOST 1048576: true; the input reads as it did. -/
def weighSumsUptoRow : OpenClaim := { program := "ytgmbflpngedhnaagreat", sum := "e388a7e09b738164741cdbf1f8ce566c84bf6f7a5090a89f648926cb141129bc", func := "arborist/arboristlaw04.WeighSums", spec := "weighSums", inPlace := ["math.Float64bits", "math.Float64frombits", "math.archTrunc"], unfollowed := true, recurses := true, apart := false, narrowed := true }
def WeighSumsUptoSaid : Prop := weighSumsUptoRow.holds Tryz.pinned (OpenSpec.upto weighSumsSpec)

/-- 'arboristlaw04.WeighRights', WHERE WHAT IT READS IS OF BULK AT MOST 1048576: true; the input reads as it did. -/
def weighRightsUptoRow : OpenClaim := { program := "ytgmbflpngedhnaagreat", sum := "e388a7e09b738164741cdbf1f8ce566c84bf6f7a5090a89f648926cb141129bc", func := "arborist/arboristlaw04.WeighRights", spec := "weighRights", inPlace := ["math.Float64bits", "math.Float64frombits", "math.archTrunc"], unfollowed := true, recurses := true, apart := false, narrowed := true }
def WeighRightsUptoSaid : Prop := weighRightsUptoRow.holds Tryz.pinned (OpenSpec.upto weighRightsSpec)

/-- 'arboristlaw04.WeighParts', WHERE WHAT IT READS IS OF BULK AT MOST 1048576: true; the input reads as it did. -/
def weighPartsUptoRow : OpenClaim := { program := "ytgmbflpngedhnaagreat", sum := "e388a7e09b738164741cdbf1f8ce566c84bf6f7a5090a89f648926cb141129bc", func := "arborist/arboristlaw04.WeighParts", spec := "weighParts", inPlace := ["math.Float64bits", "math.Float64frombits", "math.archTrunc"], unfollowed := true, recurses := true, apart := false, narrowed := true }
def WeighPartsUptoSaid : Prop := weighPartsUptoRow.holds Tryz.pinned (OpenSpec.upto weighPartsSpec)

/-- 'arboristlaw04.WeighLeast', WHERE WHAT IT READS IS OF BULK AT MOST 1048576: true; the input reads as it did. -/
def weighLeastUptoRow : OpenClaim := { program := "ytgmbflpngedhnaagreat", sum := "e388a7e09b738164741cdbf1f8ce566c84bf6f7a5090a89f648926cb141129bc", func := "arborist/arboristlaw04.WeighLeast", spec := "weighLeast", inPlace := ["math.Float64bits", "math.Float64frombits", "math.archTrunc"], unfollowed := true, recurses := true, apart := false, narrowed := true }
def WeighLeastUptoSaid : Prop := weighLeastUptoRow.holds Tryz.pinned (OpenSpec.upto weighLeastSpec)

end Rows
end Go.Proofs.YtgmbflpngedhnaaGreat
