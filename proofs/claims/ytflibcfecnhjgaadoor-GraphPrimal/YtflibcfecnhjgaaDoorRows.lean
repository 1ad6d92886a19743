/-
  NARROWER THAN 'FOR EVERY INPUT', by the rows' own cells (each row's printed sentence says how): GraphPrimal: laid · OrderTells: laid · OrderValid: laid · OrderGoes: laid · OrderTrees: laid · OrderPlain: laid · OrderPermutes: laid.
  DERIVED. THE GIVEN ROWS OF THIS SEAT. 7 by the template 'for every input the law returns true; each argument reads behind the call as it read before'; 0 by the template 'total and deterministic' (their statements: YtflibcfecnhjgaaDoorTotals.lean).
  GIVEN WITH THE SEED: the statements are not yours to turn. If you find one false, say at which input.
  Laid BY PROGRAM, IN A SANDBOX (cutbox-rows.mjs): the forced cells as the released guide's own fill.sh prints them over the translation 7785fcfad792b123… (all of the seat's roots in one cut). By AI agents, Wed Nov 11 2026. No macro, syntax, notation, axiom, sorry.
-/
import Derived.Test.YtflibcfecnhjgaaDoorChecked
import GoSem.Claim
import GoSem.ClaimJoined
import GoSem.ClaimMapViews
import Derived.JoinedTies
import Derived.KernelRfl
namespace Go.Proofs.YtflibcfecnhjgaaDoor
/- THE CELL 'sum', in the pinned program and in every row, IS THE sha256 OF THE DUMP (.gsa) THAT YtflibcfecnhjgaaDoorProg.lean LOADS. Nothing in Lean hashes anything: it is a label: what it is worth is what the hold of that sum in a sandbox is worth. -/
noncomputable def Tryd.pinned : Pinned := { name := "ytflibcfecnhjgaadoor", sum := "7785fcfad792b1232bf3ab620d13f5c936580c2c3f9cc7655ab89d7f97fb3e38", checked := Tryd.checked }
namespace Rows
def none {H : Type} : Left H := { results := [], args := [] }

/- WHAT THE LISTED PACKAGE-LEVEL VARIABLES READ AS WHEN THE CALL BEGINS. Each datum BY PROGRAM (the guide's laid-datum.mjs) off the statement by which the dump's own 'gosem.cut.vars' lays the variable. In a bare row this is a premise. The card (YtflibcfecnhjgaaDoorCards.lean) ties it to the program's text. -/
def laid_math_bits_deBruijn64tab {H : Type} : DataW H := .agg [.lit (.int .u8 0), .lit (.int .u8 1), .lit (.int .u8 56), .lit (.int .u8 2), .lit (.int .u8 57), .lit (.int .u8 49), .lit (.int .u8 28), .lit (.int .u8 3), .lit (.int .u8 61), .lit (.int .u8 58), .lit (.int .u8 42), .lit (.int .u8 50), .lit (.int .u8 38), .lit (.int .u8 29), .lit (.int .u8 17), .lit (.int .u8 4), .lit (.int .u8 62), .lit (.int .u8 47), .lit (.int .u8 59), .lit (.int .u8 36), .lit (.int .u8 45), .lit (.int .u8 43), .lit (.int .u8 51), .lit (.int .u8 22), .lit (.int .u8 53), .lit (.int .u8 39), .lit (.int .u8 33), .lit (.int .u8 30), .lit (.int .u8 24), .lit (.int .u8 18), .lit (.int .u8 12), .lit (.int .u8 5), .lit (.int .u8 63), .lit (.int .u8 55), .lit (.int .u8 48), .lit (.int .u8 27), .lit (.int .u8 60), .lit (.int .u8 41), .lit (.int .u8 37), .lit (.int .u8 16), .lit (.int .u8 46), .lit (.int .u8 35), .lit (.int .u8 44), .lit (.int .u8 21), .lit (.int .u8 52), .lit (.int .u8 32), .lit (.int .u8 23), .lit (.int .u8 11), .lit (.int .u8 54), .lit (.int .u8 26), .lit (.int .u8 40), .lit (.int .u8 15), .lit (.int .u8 34), .lit (.int .u8 20), .lit (.int .u8 31), .lit (.int .u8 10), .lit (.int .u8 25), .lit (.int .u8 14), .lit (.int .u8 19), .lit (.int .u8 9), .lit (.int .u8 13), .lit (.int .u8 8), .lit (.int .u8 7), .lit (.int .u8 6)]

/-- 'arboristlaw08.GraphPrimal': WHATEVER THE INPUT: true; the input reads as it did. -/
def graphPrimalSpec : ChangeSpec := { name := "graphPrimal", fn := fun _ => fun
  | [d] => { results := [.lit (.bool true)], args := [d] }
  | _ => none }
def graphPrimalRow : OpenClaim := { program := "ytflibcfecnhjgaadoor", sum := "7785fcfad792b1232bf3ab620d13f5c936580c2c3f9cc7655ab89d7f97fb3e38", func := "arborist/arboristlaw08.GraphPrimal", spec := "graphPrimal", recurses := true, named := ["math/bits.deBruijn64tab"], apart := false, laid := [("math/bits.deBruijn64tab", laid_math_bits_deBruijn64tab)] }
def GraphPrimalSaid : Prop := graphPrimalRow.holds Tryd.pinned (OpenSpec.ofChange graphPrimalSpec)

/-- ITS FALSE NEIGHBOUR: 'it returns false'. Refute it at one input. -/
def graphPrimalWrong : ChangeSpec := { name := "graphPrimal", fn := fun _ => fun
  | [d] => { results := [.lit (.bool false)], args := [d] }
  | _ => none }
def GraphPrimalWrongFalsely : Prop := graphPrimalRow.holds Tryd.pinned (OpenSpec.ofChange graphPrimalWrong)

/-- 'arboristlaw09.OrderTells': WHATEVER THE INPUT: true; the input reads as it did. -/
def orderTellsSpec : ChangeSpec := { name := "orderTells", fn := fun _ => fun
  | [d1, d2, d3] => { results := [.lit (.bool true)], args := [d1, d2, d3] }
  | _ => none }
def orderTellsRow : OpenClaim := { program := "ytflibcfecnhjgaadoor", sum := "7785fcfad792b1232bf3ab620d13f5c936580c2c3f9cc7655ab89d7f97fb3e38", func := "arborist/arboristlaw09.OrderTells", spec := "orderTells", inPlace := ["slices.overlaps[int]"], unfollowed := true, recurses := true, named := ["math/bits.deBruijn64tab"], apart := false, laid := [("math/bits.deBruijn64tab", laid_math_bits_deBruijn64tab)] }
def OrderTellsSaid : Prop := orderTellsRow.holds Tryd.pinned (OpenSpec.ofChange orderTellsSpec)

/-- ITS FALSE NEIGHBOUR: 'it returns false'. Refute it at one input. -/
def orderTellsWrong : ChangeSpec := { name := "orderTells", fn := fun _ => fun
  | [d1, d2, d3] => { results := [.lit (.bool false)], args := [d1, d2, d3] }
  | _ => none }
def OrderTellsWrongFalsely : Prop := orderTellsRow.holds Tryd.pinned (OpenSpec.ofChange orderTellsWrong)

/-- 'arboristlaw09.OrderValid': WHATEVER THE INPUT: true; the input reads as it did. -/
def orderValidSpec : ChangeSpec := { name := "orderValid", fn := fun _ => fun
  | [d1, d2] => { results := [.lit (.bool true)], args := [d1, d2] }
  | _ => none }
def orderValidRow : OpenClaim := { program := "ytflibcfecnhjgaadoor", sum := "7785fcfad792b1232bf3ab620d13f5c936580c2c3f9cc7655ab89d7f97fb3e38", func := "arborist/arboristlaw09.OrderValid", spec := "orderValid", inPlace := ["slices.overlaps[int]"], unfollowed := true, recurses := true, named := ["math/bits.deBruijn64tab"], apart := false, laid := [("math/bits.deBruijn64tab", laid_math_bits_deBruijn64tab)] }
def OrderValidSaid : Prop := orderValidRow.holds Tryd.pinned (OpenSpec.ofChange orderValidSpec)

/-- ITS FALSE NEIGHBOUR: 'it returns false'. Refute it at one input. -/
def orderValidWrong : ChangeSpec := { name := "orderValid", fn := fun _ => fun
  | [d1, d2] => { results := [.lit (.bool false)], args := [d1, d2] }
  | _ => none }
def OrderValidWrongFalsely : Prop := orderValidRow.holds Tryd.pinned (OpenSpec.ofChange orderValidWrong)

/-- 'arboristlaw09.OrderGoes': WHATEVER THE INPUT: true; the input reads as it did. -/
def orderGoesSpec : ChangeSpec := { name := "orderGoes", fn := fun _ => fun
  | [d1, d2, d3] => { results := [.lit (.bool true)], args := [d1, d2, d3] }
  | _ => none }
def orderGoesRow : OpenClaim := { program := "ytflibcfecnhjgaadoor", sum := "7785fcfad792b1232bf3ab620d13f5c936580c2c3f9cc7655ab89d7f97fb3e38", func := "arborist/arboristlaw09.OrderGoes", spec := "orderGoes", inPlace := ["slices.overlaps[int]"], unfollowed := true, recurses := true, named := ["math/bits.deBruijn64tab"], apart := false, laid := [("math/bits.deBruijn64tab", laid_math_bits_deBruijn64tab)] }
def OrderGoesSaid : Prop := orderGoesRow.holds Tryd.pinned (OpenSpec.ofChange orderGoesSpec)

/-- ITS FALSE NEIGHBOUR: 'it returns false'. Refute it at one input. -/
def orderGoesWrong : ChangeSpec := { name := "orderGoes", fn := fun _ => fun
  | [d1, d2, d3] => { results := [.lit (.bool false)], args := [d1, d2, d3] }
  | _ => none }
def OrderGoesWrongFalsely : Prop := orderGoesRow.holds Tryd.pinned (OpenSpec.ofChange orderGoesWrong)

/-- 'arboristlaw09.OrderTrees': WHATEVER THE INPUT: true; the input reads as it did. -/
def orderTreesSpec : ChangeSpec := { name := "orderTrees", fn := fun _ => fun
  | [d1, d2] => { results := [.lit (.bool true)], args := [d1, d2] }
  | _ => none }
def orderTreesRow : OpenClaim := { program := "ytflibcfecnhjgaadoor", sum := "7785fcfad792b1232bf3ab620d13f5c936580c2c3f9cc7655ab89d7f97fb3e38", func := "arborist/arboristlaw09.OrderTrees", spec := "orderTrees", inPlace := ["slices.overlaps[int]"], unfollowed := true, recurses := true, named := ["math/bits.deBruijn64tab"], apart := false, laid := [("math/bits.deBruijn64tab", laid_math_bits_deBruijn64tab)] }
def OrderTreesSaid : Prop := orderTreesRow.holds Tryd.pinned (OpenSpec.ofChange orderTreesSpec)

/-- ITS FALSE NEIGHBOUR: 'it returns false'. Refute it at one input. -/
def orderTreesWrong : ChangeSpec := { name := "orderTrees", fn := fun _ => fun
  | [d1, d2] => { results := [.lit (.bool false)], args := [d1, d2] }
  | _ => none }
def OrderTreesWrongFalsely : Prop := orderTreesRow.holds Tryd.pinned (OpenSpec.ofChange orderTreesWrong)

/-- 'arboristlaw09.OrderPlain': WHATEVER THE INPUT: true; the input reads as it did. -/
def orderPlainSpec : ChangeSpec := { name := "orderPlain", fn := fun _ => fun
  | [d1, d2] => { results := [.lit (.bool true)], args := [d1, d2] }
  | _ => none }
def orderPlainRow : OpenClaim := { program := "ytflibcfecnhjgaadoor", sum := "7785fcfad792b1232bf3ab620d13f5c936580c2c3f9cc7655ab89d7f97fb3e38", func := "arborist/arboristlaw09.OrderPlain", spec := "orderPlain", inPlace := ["slices.overlaps[int]"], unfollowed := true, recurses := true, named := ["math/bits.deBruijn64tab"], apart := false, laid := [("math/bits.deBruijn64tab", laid_math_bits_deBruijn64tab)] }
def OrderPlainSaid : Prop := orderPlainRow.holds Tryd.pinned (OpenSpec.ofChange orderPlainSpec)

/-- ITS FALSE NEIGHBOUR: 'it returns false'. Refute it at one input. -/
def orderPlainWrong : ChangeSpec := { name := "orderPlain", fn := fun _ => fun
  | [d1, d2] => { results := [.lit (.bool false)], args := [d1, d2] }
  | _ => none }
def OrderPlainWrongFalsely : Prop := orderPlainRow.holds Tryd.pinned (OpenSpec.ofChange orderPlainWrong)

/-- 'arboristlaw09.OrderPermutes': WHATEVER THE INPUT: true; the input reads as it did. -/
def orderPermutesSpec : ChangeSpec := { name := "orderPermutes", fn := fun _ => fun
  | [d1, d2, d3] => { results := [.lit (.bool true)], args := [d1, d2, d3] }
  | _ => none }
def orderPermutesRow : OpenClaim := { program := "ytflibcfecnhjgaadoor", sum := "7785fcfad792b1232bf3ab620d13f5c936580c2c3f9cc7655ab89d7f97fb3e38", func := "arborist/arboristlaw09.OrderPermutes", spec := "orderPermutes", inPlace := ["slices.overlaps[int]"], unfollowed := true, recurses := true, named := ["math/bits.deBruijn64tab"], apart := false, laid := [("math/bits.deBruijn64tab", laid_math_bits_deBruijn64tab)] }
def OrderPermutesSaid : Prop := orderPermutesRow.holds Tryd.pinned (OpenSpec.ofChange orderPermutesSpec)

/-- ITS FALSE NEIGHBOUR: 'it returns false'. Refute it at one input. -/
def orderPermutesWrong : ChangeSpec := { name := "orderPermutes", fn := fun _ => fun
  | [d1, d2, d3] => { results := [.lit (.bool false)], args := [d1, d2, d3] }
  | _ => none }
def OrderPermutesWrongFalsely : Prop := orderPermutesRow.holds Tryd.pinned (OpenSpec.ofChange orderPermutesWrong)

/- THE SECOND FORM. 'bulk': how many values and letters a reading holds, each counted each time it is reached (what is shared counts as often as it is met; a slice's spare places count too). A statement '..UptoSaid' is the law's where the arguments, and the package variables that the reading takes, are together of bulk at most 1048576: NARROWER than '..Said'. Prove '..Said' where nothing that the law and all that it calls make is longer than what came in: it says more and counts as full. Else prove '..UptoSaid'. A law counts once. -/
mutual
def uptoBulk {H : Type} : DataW H → Nat
  | .lit (.string bytes) => bytes.length + 1
  | .lit _ => 1
  | .nil => 1
  | .ptr d => uptoBulk d + 1
  | .slice elems spare => uptoBulkAll elems + uptoBulkAll spare + 1
  | .agg parts => uptoBulkAll parts + 1
  | .iface _ d => uptoBulk d + 1
  | .map entries => uptoBulkEntries entries + 1
  | .held _ => 1
def uptoBulkAll {H : Type} : List (DataW H) → Nat
  | [] => 0
  | d :: r => uptoBulk d + uptoBulkAll r
def uptoBulkEntries {H : Type} : List (Lit × DataW H) → Nat
  | [] => 0
  | x :: r => uptoBulkEntry x + uptoBulkEntries r
def uptoBulkEntry {H : Type} : Lit × DataW H → Nat
  | (.string bytes, d) => bytes.length + uptoBulk d + 1
  | (_, d) => uptoBulk d + 1
 end
def uptoSmall : (H : Type) → List (DataW H) → Bool := fun _ ds => decide (uptoBulkAll ds ≤ 1048576)
def OpenSpec.upto (s : _root_.Go.ChangeSpec) : _root_.Go.OpenSpec := { _root_.Go.OpenSpec.ofChange s with cond := some uptoSmall }

/-- 'arboristlaw08.GraphPrimal', WHERE WHAT IT READS IS OF BULK AT MOST 1048576: true; the input reads as it did. -/
def graphPrimalUptoRow : OpenClaim := { program := "ytflibcfecnhjgaadoor", sum := "7785fcfad792b1232bf3ab620d13f5c936580c2c3f9cc7655ab89d7f97fb3e38", func := "arborist/arboristlaw08.GraphPrimal", spec := "graphPrimal", recurses := true, named := ["math/bits.deBruijn64tab"], apart := false, laid := [("math/bits.deBruijn64tab", laid_math_bits_deBruijn64tab)], narrowed := true }
def GraphPrimalUptoSaid : Prop := graphPrimalUptoRow.holds Tryd.pinned (OpenSpec.upto graphPrimalSpec)

/-- 'arboristlaw09.OrderTells', WHERE WHAT IT READS IS OF BULK AT MOST 1048576: true; the input reads as it did. -/
def orderTellsUptoRow : OpenClaim := { program := "ytflibcfecnhjgaadoor", sum := "7785fcfad792b1232bf3ab620d13f5c936580c2c3f9cc7655ab89d7f97fb3e38", func := "arborist/arboristlaw09.OrderTells", spec := "orderTells", inPlace := ["slices.overlaps[int]"], unfollowed := true, recurses := true, named := ["math/bits.deBruijn64tab"], apart := false, laid := [("math/bits.deBruijn64tab", laid_math_bits_deBruijn64tab)], narrowed := true }
def OrderTellsUptoSaid : Prop := orderTellsUptoRow.holds Tryd.pinned (OpenSpec.upto orderTellsSpec)

/-- 'arboristlaw09.OrderValid', WHERE WHAT IT READS IS OF BULK AT MOST 1048576: true; the input reads as it did. -/
def orderValidUptoRow : OpenClaim := { program := "ytflibcfecnhjgaadoor", sum := "7785fcfad792b1232bf3ab620d13f5c936580c2c3f9cc7655ab89d7f97fb3e38", func := "arborist/arboristlaw09.OrderValid", spec := "orderValid", inPlace := ["slices.overlaps[int]"], unfollowed := true, recurses := true, named := ["math/bits.deBruijn64tab"], apart := false, laid := [("math/bits.deBruijn64tab", laid_math_bits_deBruijn64tab)], narrowed := true }
def OrderValidUptoSaid : Prop := orderValidUptoRow.holds Tryd.pinned (OpenSpec.upto orderValidSpec)

/-- 'arboristlaw09.OrderGoes', WHERE WHAT IT READS IS OF BULK AT MOST 1048576: true; the input reads as it did. -/
def orderGoesUptoRow : OpenClaim := { program := "ytflibcfecnhjgaadoor", sum := "7785fcfad792b1232bf3ab620d13f5c936580c2c3f9cc7655ab89d7f97fb3e38", func := "arborist/arboristlaw09.OrderGoes", spec := "orderGoes", inPlace := ["slices.overlaps[int]"], unfollowed := true, recurses := true, named := ["math/bits.deBruijn64tab"], apart := false, laid := [("math/bits.deBruijn64tab", laid_math_bits_deBruijn64tab)], narrowed := true }
def OrderGoesUptoSaid : Prop := orderGoesUptoRow.holds Tryd.pinned (OpenSpec.upto orderGoesSpec)

/-- 'arboristlaw09.OrderTrees', WHERE WHAT IT READS IS OF BULK AT MOST 1048576: true; the input reads as it did. -/
def orderTreesUptoRow : OpenClaim := { program := "ytflibcfecnhjgaadoor", sum := "7785fcfad792b1232bf3ab620d13f5c936580c2c3f9cc7655ab89d7f97fb3e38", func := "arborist/arboristlaw09.OrderTrees", spec := "orderTrees", inPlace := ["slices.overlaps[int]"], unfollowed := true, recurses := true, named := ["math/bits.deBruijn64tab"], apart := false, laid := [("math/bits.deBruijn64tab", laid_math_bits_deBruijn64tab)], narrowed := true }
def OrderTreesUptoSaid : Prop := orderTreesUptoRow.holds Tryd.pinned (OpenSpec.upto orderTreesSpec)

/-- 'arboristlaw09.OrderPlain', WHERE WHAT IT READS IS OF BULK AT MOST 1048576: true; the input reads as it did. -/
def orderPlainUptoRow : OpenClaim := { program := "ytflibcfecnhjgaadoor", sum := "7785fcfad792b1232bf3ab620d13f5c936580c2c3f9cc7655ab89d7f97fb3e38", func := "arborist/arboristlaw09.OrderPlain", spec := "orderPlain", inPlace := ["slices.overlaps[int]"], unfollowed := true, recurses := true, named := ["math/bits.deBruijn64tab"], apart := false, laid := [("math/bits.deBruijn64tab", laid_math_bits_deBruijn64tab)], narrowed := true }
def OrderPlainUptoSaid : Prop := orderPlainUptoRow.holds Tryd.pinned (OpenSpec.upto orderPlainSpec)

/-- 'arboristlaw09.OrderPermutes', WHERE WHAT IT READS IS OF BULK AT MOST 1048576: true; the input reads as it did. -/
def orderPermutesUptoRow : OpenClaim := { program := "ytflibcfecnhjgaadoor", sum := "7785fcfad792b1232bf3ab620d13f5c936580c2c3f9cc7655ab89d7f97fb3e38", func := "arborist/arboristlaw09.OrderPermutes", spec := "orderPermutes", inPlace := ["slices.overlaps[int]"], unfollowed := true, recurses := true, named := ["math/bits.deBruijn64tab"], apart := false, laid := [("math/bits.deBruijn64tab", laid_math_bits_deBruijn64tab)], narrowed := true }
def OrderPermutesUptoSaid : Prop := orderPermutesUptoRow.holds Tryd.pinned (OpenSpec.upto orderPermutesSpec)

end Rows
end Go.Proofs.YtflibcfecnhjgaaDoor
