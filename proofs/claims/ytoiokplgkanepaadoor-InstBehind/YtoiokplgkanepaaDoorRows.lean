/-
  NARROWER THAN 'FOR EVERY INPUT', by the rows' own cells (each row's printed sentence says how): InstReads: laid · InstBehind: laid · InstMany: laid · InstEmpty: laid.
  DERIVED. THE GIVEN ROWS OF THIS SEAT. 4 by the template 'for every input the law returns true; each argument reads behind the call as it read before'; 0 by the template 'total and deterministic' (their statements: YtoiokplgkanepaaDoorTotals.lean).
  GIVEN WITH THE SEED: the statements are not yours to turn. If you find one false, say at which input.
  Laid BY PROGRAM, IN A SANDBOX (cutbox-rows.mjs): the forced cells as the released guide's own fill.sh prints them over the translation 2a64caffbf2c00a8… (all of the seat's roots in one cut). By AI agents, Wed Nov 11 2026. No macro, syntax, notation, axiom, sorry.
-/
import Derived.Test.YtoiokplgkanepaaDoorChecked
import GoSem.Claim
import GoSem.ClaimJoined
import GoSem.ClaimMapViews
import Derived.JoinedTies
import Derived.KernelRfl
namespace Go.Proofs.YtoiokplgkanepaaDoor
/- THE CELL 'sum', in the pinned program and in every row, IS THE sha256 OF THE DUMP (.gsa) THAT YtoiokplgkanepaaDoorProg.lean LOADS. Nothing in Lean hashes anything: it is a label: what it is worth is what the hold of that sum in a sandbox is worth. -/
noncomputable def Tryd.pinned : Pinned := { name := "ytoiokplgkanepaadoor", sum := "2a64caffbf2c00a8cde50a9a96e0ed6e9085f7f2d05bd47860fa2c08352d5d12", checked := Tryd.checked }
namespace Rows
def none {H : Type} : Left H := { results := [], args := [] }

/- WHAT THE LISTED PACKAGE-LEVEL VARIABLES READ AS WHEN THE CALL BEGINS. Each datum BY PROGRAM (the guide's laid-datum.mjs) off the statement by which the dump's own 'gosem.cut.vars' lays the variable. In a bare row this is a premise. The card (YtoiokplgkanepaaDoorCards.lean) ties it to the program's text. -/
def laid_math_bits_deBruijn32tab {H : Type} : DataW H := .agg [.lit (.int .u8 0), .lit (.int .u8 1), .lit (.int .u8 28), .lit (.int .u8 2), .lit (.int .u8 29), .lit (.int .u8 14), .lit (.int .u8 24), .lit (.int .u8 3), .lit (.int .u8 30), .lit (.int .u8 22), .lit (.int .u8 20), .lit (.int .u8 15), .lit (.int .u8 25), .lit (.int .u8 17), .lit (.int .u8 4), .lit (.int .u8 8), .lit (.int .u8 31), .lit (.int .u8 27), .lit (.int .u8 13), .lit (.int .u8 23), .lit (.int .u8 21), .lit (.int .u8 19), .lit (.int .u8 16), .lit (.int .u8 7), .lit (.int .u8 26), .lit (.int .u8 12), .lit (.int .u8 18), .lit (.int .u8 6), .lit (.int .u8 11), .lit (.int .u8 5), .lit (.int .u8 10), .lit (.int .u8 9)]
def laid_math_bits_deBruijn64tab {H : Type} : DataW H := .agg [.lit (.int .u8 0), .lit (.int .u8 1), .lit (.int .u8 56), .lit (.int .u8 2), .lit (.int .u8 57), .lit (.int .u8 49), .lit (.int .u8 28), .lit (.int .u8 3), .lit (.int .u8 61), .lit (.int .u8 58), .lit (.int .u8 42), .lit (.int .u8 50), .lit (.int .u8 38), .lit (.int .u8 29), .lit (.int .u8 17), .lit (.int .u8 4), .lit (.int .u8 62), .lit (.int .u8 47), .lit (.int .u8 59), .lit (.int .u8 36), .lit (.int .u8 45), .lit (.int .u8 43), .lit (.int .u8 51), .lit (.int .u8 22), .lit (.int .u8 53), .lit (.int .u8 39), .lit (.int .u8 33), .lit (.int .u8 30), .lit (.int .u8 24), .lit (.int .u8 18), .lit (.int .u8 12), .lit (.int .u8 5), .lit (.int .u8 63), .lit (.int .u8 55), .lit (.int .u8 48), .lit (.int .u8 27), .lit (.int .u8 60), .lit (.int .u8 41), .lit (.int .u8 37), .lit (.int .u8 16), .lit (.int .u8 46), .lit (.int .u8 35), .lit (.int .u8 44), .lit (.int .u8 21), .lit (.int .u8 52), .lit (.int .u8 32), .lit (.int .u8 23), .lit (.int .u8 11), .lit (.int .u8 54), .lit (.int .u8 26), .lit (.int .u8 40), .lit (.int .u8 15), .lit (.int .u8 34), .lit (.int .u8 20), .lit (.int .u8 31), .lit (.int .u8 10), .lit (.int .u8 25), .lit (.int .u8 14), .lit (.int .u8 19), .lit (.int .u8 9), .lit (.int .u8 13), .lit (.int .u8 8), .lit (.int .u8 7), .lit (.int .u8 6)]
def laid_internal_strconv_uint64pow10 {H : Type} : DataW H := .agg [.lit (.int .u64 1), .lit (.int .u64 10), .lit (.int .u64 100), .lit (.int .u64 1000), .lit (.int .u64 10000), .lit (.int .u64 100000), .lit (.int .u64 1000000), .lit (.int .u64 10000000), .lit (.int .u64 100000000), .lit (.int .u64 1000000000), .lit (.int .u64 10000000000), .lit (.int .u64 100000000000), .lit (.int .u64 1000000000000), .lit (.int .u64 10000000000000), .lit (.int .u64 100000000000000), .lit (.int .u64 1000000000000000), .lit (.int .u64 10000000000000000), .lit (.int .u64 100000000000000000), .lit (.int .u64 1000000000000000000), .lit (.int .u64 10000000000000000000)]
def laid_arborist_inst_words {H : Type} : DataW H := .agg [.lit (.string [118, 97, 114]), .lit (.string [116, 97, 98, 108, 101]), .lit (.string [102, 111, 114, 98, 105, 100]), .lit (.string [100, 105, 102, 102]), .lit (.string [101, 113, 117, 97, 108]), .lit (.string [114, 105, 115, 105, 110, 103]), .lit (.string [108, 105, 110, 101, 97, 114]), .lit (.string [115, 111, 102, 116]), .lit (.string [101, 113]), .lit (.string [108, 101]), .lit (.string [110, 101])]

/-- 'arboristlaw06.InstReads': WHATEVER THE INPUT: true; the input reads as it did. -/
def instReadsSpec : ChangeSpec := { name := "instReads", fn := fun _ => fun
  | [d] => { results := [.lit (.bool true)], args := [d] }
  | _ => none }
def instReadsRow : OpenClaim := { program := "ytoiokplgkanepaadoor", sum := "2a64caffbf2c00a8cde50a9a96e0ed6e9085f7f2d05bd47860fa2c08352d5d12", func := "arborist/arboristlaw06.InstReads", spec := "instReads", inPlace := ["internal/abi.NoEscape"], unfollowed := true, recurses := true, named := ["arborist/inst.words", "internal/strconv.uint64pow10", "math/bits.deBruijn32tab", "math/bits.deBruijn64tab"], apart := false, laid := [("math/bits.deBruijn32tab", laid_math_bits_deBruijn32tab), ("math/bits.deBruijn64tab", laid_math_bits_deBruijn64tab), ("internal/strconv.uint64pow10", laid_internal_strconv_uint64pow10), ("arborist/inst.words", laid_arborist_inst_words)] }
def InstReadsSaid : Prop := instReadsRow.holds Tryd.pinned (OpenSpec.ofChange instReadsSpec)

/-- ITS FALSE NEIGHBOUR: 'it returns false'. Refute it at one input. -/
def instReadsWrong : ChangeSpec := { name := "instReads", fn := fun _ => fun
  | [d] => { results := [.lit (.bool false)], args := [d] }
  | _ => none }
def InstReadsWrongFalsely : Prop := instReadsRow.holds Tryd.pinned (OpenSpec.ofChange instReadsWrong)

/-- 'arboristlaw06.InstBehind': WHATEVER THE INPUT: true; the input reads as it did. -/
def instBehindSpec : ChangeSpec := { name := "instBehind", fn := fun _ => fun
  | [d1, d2] => { results := [.lit (.bool true)], args := [d1, d2] }
  | _ => none }
def instBehindRow : OpenClaim := { program := "ytoiokplgkanepaadoor", sum := "2a64caffbf2c00a8cde50a9a96e0ed6e9085f7f2d05bd47860fa2c08352d5d12", func := "arborist/arboristlaw06.InstBehind", spec := "instBehind", inPlace := ["internal/abi.NoEscape"], unfollowed := true, recurses := true, named := ["arborist/inst.words", "internal/strconv.uint64pow10", "math/bits.deBruijn32tab", "math/bits.deBruijn64tab"], apart := false, laid := [("math/bits.deBruijn32tab", laid_math_bits_deBruijn32tab), ("math/bits.deBruijn64tab", laid_math_bits_deBruijn64tab), ("internal/strconv.uint64pow10", laid_internal_strconv_uint64pow10), ("arborist/inst.words", laid_arborist_inst_words)] }
def InstBehindSaid : Prop := instBehindRow.holds Tryd.pinned (OpenSpec.ofChange instBehindSpec)

/-- ITS FALSE NEIGHBOUR: 'it returns false'. Refute it at one input. -/
def instBehindWrong : ChangeSpec := { name := "instBehind", fn := fun _ => fun
  | [d1, d2] => { results := [.lit (.bool false)], args := [d1, d2] }
  | _ => none }
def InstBehindWrongFalsely : Prop := instBehindRow.holds Tryd.pinned (OpenSpec.ofChange instBehindWrong)

/-- 'arboristlaw06.InstMany': WHATEVER THE INPUT: true; the input reads as it did. -/
def instManySpec : ChangeSpec := { name := "instMany", fn := fun _ => fun
  | [d] => { results := [.lit (.bool true)], args := [d] }
  | _ => none }
def instManyRow : OpenClaim := { program := "ytoiokplgkanepaadoor", sum := "2a64caffbf2c00a8cde50a9a96e0ed6e9085f7f2d05bd47860fa2c08352d5d12", func := "arborist/arboristlaw06.InstMany", spec := "instMany", inPlace := ["internal/abi.NoEscape"], unfollowed := true, recurses := true, named := ["arborist/inst.words", "internal/strconv.uint64pow10", "math/bits.deBruijn32tab", "math/bits.deBruijn64tab"], apart := false, laid := [("math/bits.deBruijn32tab", laid_math_bits_deBruijn32tab), ("math/bits.deBruijn64tab", laid_math_bits_deBruijn64tab), ("internal/strconv.uint64pow10", laid_internal_strconv_uint64pow10), ("arborist/inst.words", laid_arborist_inst_words)] }
def InstManySaid : Prop := instManyRow.holds Tryd.pinned (OpenSpec.ofChange instManySpec)

/-- ITS FALSE NEIGHBOUR: 'it returns false'. Refute it at one input. -/
def instManyWrong : ChangeSpec := { name := "instMany", fn := fun _ => fun
  | [d] => { results := [.lit (.bool false)], args := [d] }
  | _ => none }
def InstManyWrongFalsely : Prop := instManyRow.holds Tryd.pinned (OpenSpec.ofChange instManyWrong)

/-- 'arboristlaw06.InstEmpty': WHATEVER THE INPUT: true; the input reads as it did. -/
def instEmptySpec : ChangeSpec := { name := "instEmpty", fn := fun _ => fun
  | [d] => { results := [.lit (.bool true)], args := [d] }
  | _ => none }
def instEmptyRow : OpenClaim := { program := "ytoiokplgkanepaadoor", sum := "2a64caffbf2c00a8cde50a9a96e0ed6e9085f7f2d05bd47860fa2c08352d5d12", func := "arborist/arboristlaw06.InstEmpty", spec := "instEmpty", inPlace := ["internal/abi.NoEscape"], unfollowed := true, recurses := true, named := ["arborist/inst.words", "internal/strconv.uint64pow10", "math/bits.deBruijn32tab", "math/bits.deBruijn64tab"], apart := false, laid := [("math/bits.deBruijn32tab", laid_math_bits_deBruijn32tab), ("math/bits.deBruijn64tab", laid_math_bits_deBruijn64tab), ("internal/strconv.uint64pow10", laid_internal_strconv_uint64pow10), ("arborist/inst.words", laid_arborist_inst_words)] }
def InstEmptySaid : Prop := instEmptyRow.holds Tryd.pinned (OpenSpec.ofChange instEmptySpec)

/-- ITS FALSE NEIGHBOUR: 'it returns false'. Refute it at one input. -/
def instEmptyWrong : ChangeSpec := { name := "instEmpty", fn := fun _ => fun
  | [d] => { results := [.lit (.bool false)], args := [d] }
  | _ => none }
def InstEmptyWrongFalsely : Prop := instEmptyRow.holds Tryd.pinned (OpenSpec.ofChange instEmptyWrong)

/- THE SECOND FORM. 'bulk': how many values and letters a reading holds, each counted each time it is reached (what is shared counts as often as it is met; a slice's spare places count too). A statement '..UptoSaid' is the law's where the arguments, and the package variables that the reading takes, are together of bulk at most 1048576: NARROWER than '..Said'. Prove '..Said' where nothing that the law and all that it calls make is longer than what came in: it says more and counts as full. Else prove '..UptoSaid'. A law counts once. -/
mutual
def uptoBulk {H : Type} : DataW H → Nat
  | .lit (.string bytes) => bytes.length + 1
  | .lit _ => 1
  | .nil => 1
  | .ptr d => uptoBulk d + 1
  | .slice elems spare => uptoBulkAll elems + uptoBulkAll spare + 1
  | .agg parts => uptoBulkAll parts + 1
  | .iface _ d => uptoBulk d + 1
  | .map entries => uptoBulkEntries entries + 1
  | .held _ => 1
def uptoBulkAll {H : Type} : List (DataW H) → Nat
  | [] => 0
  | d :: r => uptoBulk d + uptoBulkAll r
def uptoBulkEntries {H : Type} : List (Lit × DataW H) → Nat
  | [] => 0
  | x :: r => uptoBulkEntry x + uptoBulkEntries r
def uptoBulkEntry {H : Type} : Lit × DataW H → Nat
  | (.string bytes, d) => bytes.length + uptoBulk d + 1
  | (_, d) => uptoBulk d + 1
 end
def uptoSmall : (H : Type) → List (DataW H) → Bool := fun _ ds => decide (uptoBulkAll ds ≤ 1048576)
def OpenSpec.upto (s : _root_.Go.ChangeSpec) : _root_.Go.OpenSpec := { _root_.Go.OpenSpec.ofChange s with cond := some uptoSmall }

/-- 'arboristlaw06.InstReads', WHERE WHAT IT READS IS OF BULK AT MOST 1048576: true; the input reads as it did. -/
def instReadsUptoRow : OpenClaim := { program := "ytoiokplgkanepaadoor", sum := "2a64caffbf2c00a8cde50a9a96e0ed6e9085f7f2d05bd47860fa2c08352d5d12", func := "arborist/arboristlaw06.InstReads", spec := "instReads", inPlace := ["internal/abi.NoEscape"], unfollowed := true, recurses := true, named := ["arborist/inst.words", "internal/strconv.uint64pow10", "math/bits.deBruijn32tab", "math/bits.deBruijn64tab"], apart := false, laid := [("math/bits.deBruijn32tab", laid_math_bits_deBruijn32tab), ("math/bits.deBruijn64tab", laid_math_bits_deBruijn64tab), ("internal/strconv.uint64pow10", laid_internal_strconv_uint64pow10), ("arborist/inst.words", laid_arborist_inst_words)], narrowed := true }
def InstReadsUptoSaid : Prop := instReadsUptoRow.holds Tryd.pinned (OpenSpec.upto instReadsSpec)

/-- 'arboristlaw06.InstBehind', WHERE WHAT IT READS IS OF BULK AT MOST 1048576: true; the input reads as it did. -/
def instBehindUptoRow : OpenClaim := { program := "ytoiokplgkanepaadoor", sum := "2a64caffbf2c00a8cde50a9a96e0ed6e9085f7f2d05bd47860fa2c08352d5d12", func := "arborist/arboristlaw06.InstBehind", spec := "instBehind", inPlace := ["internal/abi.NoEscape"], unfollowed := true, recurses := true, named := ["arborist/inst.words", "internal/strconv.uint64pow10", "math/bits.deBruijn32tab", "math/bits.deBruijn64tab"], apart := false, laid := [("math/bits.deBruijn32tab", laid_math_bits_deBruijn32tab), ("math/bits.deBruijn64tab", laid_math_bits_deBruijn64tab), ("internal/strconv.uint64pow10", laid_internal_strconv_uint64pow10), ("arborist/inst.words", laid_arborist_inst_words)], narrowed := true }
def InstBehindUptoSaid : Prop := instBehindUptoRow.holds Tryd.pinned (OpenSpec.upto instBehindSpec)

/-- 'arboristlaw06.InstMany', WHERE WHAT IT READS IS OF BULK AT MOST 1048576: true; the input reads as it did. -/
def instManyUptoRow : OpenClaim := { program := "ytoiokplgkanepaadoor", sum := "2a64caffbf2c00a8cde50a9a96e0ed6e9085f7f2d05bd47860fa2c08352d5d12", func := "arborist/arboristlaw06.InstMany", spec := "instMany", inPlace := ["internal/abi.NoEscape"], unfollowed := true, recurses := true, named := ["arborist/inst.words", "internal/strconv.uint64pow10", "math/bits.deBruijn32tab", "math/bits.deBruijn64tab"], apart := false, laid := [("math/bits.deBruijn32tab", laid_math_bits_deBruijn32tab), ("math/bits.deBruijn64tab", laid_math_bits_deBruijn64tab), ("internal/strconv.uint64pow10", laid_internal_strconv_uint64pow10), ("arborist/inst.words", laid_arborist_inst_words)], narrowed := true }
def InstManyUptoSaid : Prop := instManyUptoRow.holds Tryd.pinned (OpenSpec.upto instManySpec)

/-- 'arboristlaw06.InstEmpty', WHERE WHAT IT READS IS OF BULK AT MOST 1048576: true; the input reads as it did. -/
def instEmptyUptoRow : OpenClaim := { program := "ytoiokplgkanepaadoor", sum := "2a64caffbf2c00a8cde50a9a96e0ed6e9085f7f2d05bd47860fa2c08352d5d12", func := "arborist/arboristlaw06.InstEmpty", spec := "instEmpty", inPlace := ["internal/abi.NoEscape"], unfollowed := true, recurses := true, named := ["arborist/inst.words", "internal/strconv.uint64pow10", "math/bits.deBruijn32tab", "math/bits.deBruijn64tab"], apart := false, laid := [("math/bits.deBruijn32tab", laid_math_bits_deBruijn32tab), ("math/bits.deBruijn64tab", laid_math_bits_deBruijn64tab), ("internal/strconv.uint64pow10", laid_internal_strconv_uint64pow10), ("arborist/inst.words", laid_arborist_inst_words)], narrowed := true }
def InstEmptyUptoSaid : Prop := instEmptyUptoRow.holds Tryd.pinned (OpenSpec.upto instEmptySpec)

end Rows
end Go.Proofs.YtoiokplgkanepaaDoor
