/-
  No cell of these rows narrows 'for every input' (looked for: loops, veiled, ifaces, maps, wideKeys, modest, calm, conditions, laid).
  DERIVED. THE GIVEN ROWS OF THIS SEAT. 7 by the template 'for every input the law returns true; each argument reads behind the call as it read before'; 0 by the template 'total and deterministic' (their statements: YtehoepliiobliaaTotals.lean).
  GIVEN WITH THE SEED: the statements are not yours to turn. If you find one false, say at which input.
  Laid BY PROGRAM, IN A SANDBOX (cutbox-rows.mjs): the forced cells as the released guide's own fill.sh prints them over the translation 94988a9d18bdff2a… (all of the seat's roots in one cut). By AI agents, Wed Nov 11 2026. No macro, syntax, notation, axiom, sorry.
-/
import Derived.Test.YtehoepliiobliaaChecked
import GoSem.Claim
import GoSem.ClaimJoined
import GoSem.ClaimMapViews
import Derived.JoinedTies
import Derived.KernelRfl
namespace Go.Proofs.Ytehoepliiobliaa
/- THE CELL 'sum', in the pinned program and in every row, IS THE sha256 OF THE DUMP (.gsa) THAT YtehoepliiobliaaProg.lean LOADS. Nothing in Lean hashes anything: it is a label: what it is worth is what the hold of that sum in a sandbox is worth. -/
noncomputable def Try.pinned : Pinned := { name := "ytehoepliiobliaa", sum := "94988a9d18bdff2a472beaf903b3ae33dd4765ade6a4d2d923528cc82f84ecd1", checked := Try.checked }
namespace Rows
def none {H : Type} : Left H := { results := [], args := [] }

/-- 'arboristlaw05.ScanTells': WHATEVER THE INPUT: true; the input reads as it did. -/
def scanTellsSpec : ChangeSpec := { name := "scanTells", fn := fun _ => fun
  | [d] => { results := [.lit (.bool true)], args := [d] }
  | _ => none }
def scanTellsRow : OpenClaim := { program := "ytehoepliiobliaa", sum := "94988a9d18bdff2a472beaf903b3ae33dd4765ade6a4d2d923528cc82f84ecd1", func := "arborist/arboristlaw05.ScanTells", spec := "scanTells", unfollowed := true, recurses := true, apart := false }
def ScanTellsSaid : Prop := scanTellsRow.holds Try.pinned (OpenSpec.ofChange scanTellsSpec)

/-- ITS FALSE NEIGHBOUR: 'it returns false'. Refute it at one input. -/
def scanTellsWrong : ChangeSpec := { name := "scanTells", fn := fun _ => fun
  | [d] => { results := [.lit (.bool false)], args := [d] }
  | _ => none }
def ScanTellsWrongFalsely : Prop := scanTellsRow.holds Try.pinned (OpenSpec.ofChange scanTellsWrong)

/-- 'arboristlaw05.ScanPlaces': WHATEVER THE INPUT: true; the input reads as it did. -/
def scanPlacesSpec : ChangeSpec := { name := "scanPlaces", fn := fun _ => fun
  | [d] => { results := [.lit (.bool true)], args := [d] }
  | _ => none }
def scanPlacesRow : OpenClaim := { program := "ytehoepliiobliaa", sum := "94988a9d18bdff2a472beaf903b3ae33dd4765ade6a4d2d923528cc82f84ecd1", func := "arborist/arboristlaw05.ScanPlaces", spec := "scanPlaces", unfollowed := true, recurses := true, apart := false }
def ScanPlacesSaid : Prop := scanPlacesRow.holds Try.pinned (OpenSpec.ofChange scanPlacesSpec)

/-- ITS FALSE NEIGHBOUR: 'it returns false'. Refute it at one input. -/
def scanPlacesWrong : ChangeSpec := { name := "scanPlaces", fn := fun _ => fun
  | [d] => { results := [.lit (.bool false)], args := [d] }
  | _ => none }
def ScanPlacesWrongFalsely : Prop := scanPlacesRow.holds Try.pinned (OpenSpec.ofChange scanPlacesWrong)

/-- 'arboristlaw05.ScanBlanks': WHATEVER THE INPUT: true; the input reads as it did. -/
def scanBlanksSpec : ChangeSpec := { name := "scanBlanks", fn := fun _ => fun
  | [d] => { results := [.lit (.bool true)], args := [d] }
  | _ => none }
def scanBlanksRow : OpenClaim := { program := "ytehoepliiobliaa", sum := "94988a9d18bdff2a472beaf903b3ae33dd4765ade6a4d2d923528cc82f84ecd1", func := "arborist/arboristlaw05.ScanBlanks", spec := "scanBlanks", unfollowed := true, recurses := true, apart := false }
def ScanBlanksSaid : Prop := scanBlanksRow.holds Try.pinned (OpenSpec.ofChange scanBlanksSpec)

/-- ITS FALSE NEIGHBOUR: 'it returns false'. Refute it at one input. -/
def scanBlanksWrong : ChangeSpec := { name := "scanBlanks", fn := fun _ => fun
  | [d] => { results := [.lit (.bool false)], args := [d] }
  | _ => none }
def ScanBlanksWrongFalsely : Prop := scanBlanksRow.holds Try.pinned (OpenSpec.ofChange scanBlanksWrong)

/-- 'arboristlaw05.ScanNumbers': WHATEVER THE INPUT: true; the input reads as it did. -/
def scanNumbersSpec : ChangeSpec := { name := "scanNumbers", fn := fun _ => fun
  | [d] => { results := [.lit (.bool true)], args := [d] }
  | _ => none }
def scanNumbersRow : OpenClaim := { program := "ytehoepliiobliaa", sum := "94988a9d18bdff2a472beaf903b3ae33dd4765ade6a4d2d923528cc82f84ecd1", func := "arborist/arboristlaw05.ScanNumbers", spec := "scanNumbers", unfollowed := true, recurses := true, apart := false }
def ScanNumbersSaid : Prop := scanNumbersRow.holds Try.pinned (OpenSpec.ofChange scanNumbersSpec)

/-- ITS FALSE NEIGHBOUR: 'it returns false'. Refute it at one input. -/
def scanNumbersWrong : ChangeSpec := { name := "scanNumbers", fn := fun _ => fun
  | [d] => { results := [.lit (.bool false)], args := [d] }
  | _ => none }
def ScanNumbersWrongFalsely : Prop := scanNumbersRow.holds Try.pinned (OpenSpec.ofChange scanNumbersWrong)

/-- 'arboristlaw05.ScanLong': WHATEVER THE INPUT: true; the input reads as it did. -/
def scanLongSpec : ChangeSpec := { name := "scanLong", fn := fun _ => fun
  | [d] => { results := [.lit (.bool true)], args := [d] }
  | _ => none }
def scanLongRow : OpenClaim := { program := "ytehoepliiobliaa", sum := "94988a9d18bdff2a472beaf903b3ae33dd4765ade6a4d2d923528cc82f84ecd1", func := "arborist/arboristlaw05.ScanLong", spec := "scanLong", unfollowed := true, recurses := true, apart := false }
def ScanLongSaid : Prop := scanLongRow.holds Try.pinned (OpenSpec.ofChange scanLongSpec)

/-- ITS FALSE NEIGHBOUR: 'it returns false'. Refute it at one input. -/
def scanLongWrong : ChangeSpec := { name := "scanLong", fn := fun _ => fun
  | [d] => { results := [.lit (.bool false)], args := [d] }
  | _ => none }
def ScanLongWrongFalsely : Prop := scanLongRow.holds Try.pinned (OpenSpec.ofChange scanLongWrong)

/-- 'arboristlaw05.ScanPairs': WHATEVER THE INPUT: true; the input reads as it did. -/
def scanPairsSpec : ChangeSpec := { name := "scanPairs", fn := fun _ => fun
  | [d1, d2] => { results := [.lit (.bool true)], args := [d1, d2] }
  | _ => none }
def scanPairsRow : OpenClaim := { program := "ytehoepliiobliaa", sum := "94988a9d18bdff2a472beaf903b3ae33dd4765ade6a4d2d923528cc82f84ecd1", func := "arborist/arboristlaw05.ScanPairs", spec := "scanPairs", unfollowed := true, recurses := true, apart := false }
def ScanPairsSaid : Prop := scanPairsRow.holds Try.pinned (OpenSpec.ofChange scanPairsSpec)

/-- ITS FALSE NEIGHBOUR: 'it returns false'. Refute it at one input. -/
def scanPairsWrong : ChangeSpec := { name := "scanPairs", fn := fun _ => fun
  | [d1, d2] => { results := [.lit (.bool false)], args := [d1, d2] }
  | _ => none }
def ScanPairsWrongFalsely : Prop := scanPairsRow.holds Try.pinned (OpenSpec.ofChange scanPairsWrong)

/-- 'arboristlaw05.ScanNotes': WHATEVER THE INPUT: true; the input reads as it did. -/
def scanNotesSpec : ChangeSpec := { name := "scanNotes", fn := fun _ => fun
  | [d] => { results := [.lit (.bool true)], args := [d] }
  | _ => none }
def scanNotesRow : OpenClaim := { program := "ytehoepliiobliaa", sum := "94988a9d18bdff2a472beaf903b3ae33dd4765ade6a4d2d923528cc82f84ecd1", func := "arborist/arboristlaw05.ScanNotes", spec := "scanNotes", unfollowed := true, recurses := true, apart := false }
def ScanNotesSaid : Prop := scanNotesRow.holds Try.pinned (OpenSpec.ofChange scanNotesSpec)

/-- ITS FALSE NEIGHBOUR: 'it returns false'. Refute it at one input. -/
def scanNotesWrong : ChangeSpec := { name := "scanNotes", fn := fun _ => fun
  | [d] => { results := [.lit (.bool false)], args := [d] }
  | _ => none }
def ScanNotesWrongFalsely : Prop := scanNotesRow.holds Try.pinned (OpenSpec.ofChange scanNotesWrong)

/- THE SECOND FORM. 'bulk': how many values and letters a reading holds, each counted each time it is reached (what is shared counts as often as it is met; a slice's spare places count too). A statement '..UptoSaid' is the law's where the arguments, and the package variables that the reading takes, are together of bulk at most 1048576: NARROWER than '..Said'. Prove '..Said' where nothing that the law and all that it calls make is longer than what came in: it says more and counts as full. Else prove '..UptoSaid'. A law counts once. -/
mutual
def uptoBulk {H : Type} : DataW H → Nat
  | .lit (.string bytes) => bytes.length + 1
  | .lit _ => 1
  | .nil => 1
  | .ptr d => uptoBulk d + 1
  | .slice elems spare => uptoBulkAll elems + uptoBulkAll spare + 1
  | .agg parts => uptoBulkAll parts + 1
  | .iface _ d => uptoBulk d + 1
  | .map entries => uptoBulkEntries entries + 1
  | .held _ => 1
def uptoBulkAll {H : Type} : List (DataW H) → Nat
  | [] => 0
  | d :: r => uptoBulk d + uptoBulkAll r
def uptoBulkEntries {H : Type} : List (Lit × DataW H) → Nat
  | [] => 0
  | x :: r => uptoBulkEntry x + uptoBulkEntries r
def uptoBulkEntry {H : Type} : Lit × DataW H → Nat
  | (.string bytes, d) => bytes.length + uptoBulk d + 1
  | (_, d) => uptoBulk d + 1
 end
def uptoSmall : (H : Type) → List (DataW H) → Bool := fun _ ds => decide (uptoBulkAll ds ≤ 1048576)
def OpenSpec.upto (s : _root_.Go.ChangeSpec) : _root_.Go.OpenSpec := { _root_.Go.OpenSpec.ofChange s with cond := some uptoSmall }

/-- 'arboristlaw05.ScanTells', WHERE WHAT IT READS IS OF BULK AT MOST 1048576: true; the input reads as it did. -/
def scanTellsUptoRow : OpenClaim := { program := "ytehoepliiobliaa", sum := "94988a9d18bdff2a472beaf903b3ae33dd4765ade6a4d2d923528cc82f84ecd1", func := "arborist/arboristlaw05.ScanTells", spec := "scanTells", unfollowed := true, recurses := true, apart := false, narrowed := true }
def ScanTellsUptoSaid : Prop := scanTellsUptoRow.holds Try.pinned (OpenSpec.upto scanTellsSpec)

/-- 'arboristlaw05.ScanPlaces', WHERE WHAT IT READS IS OF BULK AT MOST 1048576: true; the input reads as it did. -/
def scanPlacesUptoRow : OpenClaim := { program := "ytehoepliiobliaa", sum := "94988a9d18bdff2a472beaf903b3ae33dd4765ade6a4d2d923528cc82f84ecd1", func := "arborist/arboristlaw05.ScanPlaces", spec := "scanPlaces", unfollowed := true, recurses := true, apart := false, narrowed := true }
def ScanPlacesUptoSaid : Prop := scanPlacesUptoRow.holds Try.pinned (OpenSpec.upto scanPlacesSpec)

/-- 'arboristlaw05.ScanBlanks', WHERE WHAT IT READS IS OF BULK AT MOST 1048576: true; the input reads as it did. -/
def scanBlanksUptoRow : OpenClaim := { program := "ytehoepliiobliaa", sum := "94988a9d18bdff2a472beaf903b3ae33dd4765ade6a4d2d923528cc82f84ecd1", func := "arborist/arboristlaw05.ScanBlanks", spec := "scanBlanks", unfollowed := true, recurses := true, apart := false, narrowed := true }
def ScanBlanksUptoSaid : Prop := scanBlanksUptoRow.holds Try.pinned (OpenSpec.upto scanBlanksSpec)

/-- 'arboristlaw05.ScanNumbers', WHERE WHAT IT READS IS OF BULK AT MOST 1048576: true; the input reads as it did. -/
def scanNumbersUptoRow : OpenClaim := { program := "ytehoepliiobliaa", sum := "94988a9d18bdff2a472beaf903b3ae33dd4765ade6a4d2d923528cc82f84ecd1", func := "arborist/arboristlaw05.ScanNumbers", spec := "scanNumbers", unfollowed := true, recurses := true, apart := false, narrowed := true }
def ScanNumbersUptoSaid : Prop := scanNumbersUptoRow.holds Try.pinned (OpenSpec.upto scanNumbersSpec)

/-- 'arboristlaw05.ScanLong', WHERE WHAT IT READS IS OF BULK AT MOST 1048576: true; the input reads as it did. -/
def scanLongUptoRow : OpenClaim := { program := "ytehoepliiobliaa", sum := "94988a9d18bdff2a472beaf903b3ae33dd4765ade6a4d2d923528cc82f84ecd1", func := "arborist/arboristlaw05.ScanLong", spec := "scanLong", unfollowed := true, recurses := true, apart := false, narrowed := true }
def ScanLongUptoSaid : Prop := scanLongUptoRow.holds Try.pinned (OpenSpec.upto scanLongSpec)

/-- 'arboristlaw05.ScanPairs', WHERE WHAT IT READS IS OF BULK AT MOST 1048576: true; the input reads as it did. -/
def scanPairsUptoRow : OpenClaim := { program := "ytehoepliiobliaa", sum := "94988a9d18bdff2a472beaf903b3ae33dd4765ade6a4d2d923528cc82f84ecd1", func := "arborist/arboristlaw05.ScanPairs", spec := "scanPairs", unfollowed := true, recurses := true, apart := false, narrowed := true }
def ScanPairsUptoSaid : Prop := scanPairsUptoRow.holds Try.pinned (OpenSpec.upto scanPairsSpec)

/-- 'arboristlaw05.ScanNotes', WHERE WHAT IT READS IS OF BULK AT MOST 1048576: true; the input reads as it did. -/
def scanNotesUptoRow : OpenClaim := { program := "ytehoepliiobliaa", sum := "94988a9d18bdff2a472beaf903b3ae33dd4765ade6a4d2d923528cc82f84ecd1", func := "arborist/arboristlaw05.ScanNotes", spec := "scanNotes", unfollowed := true, recurses := true, apart := false, narrowed := true }
def ScanNotesUptoSaid : Prop := scanNotesUptoRow.holds Try.pinned (OpenSpec.upto scanNotesSpec)

end Rows
end Go.Proofs.Ytehoepliiobliaa
