/-
  DERIVED. GIVEN WITH THE SEED: THE CARDS: each row of YtoiokplgkanepaaDoorRows.lean that lists a variable, with what it lists TIED to the program's text (the seventh form; the later family's looks); each row that meets fmt, with fmt's text TOLD by the authors' own Lean function (tested against real Go, not proved from fmt's source: count such statements apart). THE CARD IS WHAT COUNTS. Prove the row's statement (the work); the ties are given (YtoiokplgkanepaaDoorTie.lean); close each card by the builder's one call (the guide's Derived/Test/ToyasCard.lean, 'card_holds'). Laid BY PROGRAM, IN A SANDBOX (cutbox-door.mjs). By AI agents, Wed Nov 11 2026. No macro, syntax, notation, axiom, sorry.
-/
import Derived.Test.YtoiokplgkanepaaDoorRows
import GoSem.ClaimSeven
namespace Go.Proofs.YtoiokplgkanepaaDoor
namespace Rows

/-- THE TIED CARD OF 'arboristlaw06.InstReads'. -/
def instReadsCard : Claim7 := { stood := { row := instReadsRow, standIns := [], harness := (true, "4a5c26e7eb7ef004d4ddb8f89d87f74099466696b1fd2b825a21b575a33a8ba8"), looks := true }, kinds := [], alts := [], laidByText := true, laidKinds := [.data, .data, .data, .data], laidTests := true, laidLooks := .later }
def InstReadsCardSaid : Prop := Claim7.holds Tryd.pinned (.plain (OpenSpec.ofChange instReadsSpec)) instReadsCard

/-- THE TIED CARD OF 'arboristlaw06.InstBehind'. -/
def instBehindCard : Claim7 := { stood := { row := instBehindRow, standIns := [], harness := (true, "4a5c26e7eb7ef004d4ddb8f89d87f74099466696b1fd2b825a21b575a33a8ba8"), looks := true }, kinds := [], alts := [], laidByText := true, laidKinds := [.data, .data, .data, .data], laidTests := true, laidLooks := .later }
def InstBehindCardSaid : Prop := Claim7.holds Tryd.pinned (.plain (OpenSpec.ofChange instBehindSpec)) instBehindCard

/-- THE TIED CARD OF 'arboristlaw06.InstMany'. -/
def instManyCard : Claim7 := { stood := { row := instManyRow, standIns := [], harness := (true, "4a5c26e7eb7ef004d4ddb8f89d87f74099466696b1fd2b825a21b575a33a8ba8"), looks := true }, kinds := [], alts := [], laidByText := true, laidKinds := [.data, .data, .data, .data], laidTests := true, laidLooks := .later }
def InstManyCardSaid : Prop := Claim7.holds Tryd.pinned (.plain (OpenSpec.ofChange instManySpec)) instManyCard

/-- THE TIED CARD OF 'arboristlaw06.InstEmpty'. -/
def instEmptyCard : Claim7 := { stood := { row := instEmptyRow, standIns := [], harness := (true, "4a5c26e7eb7ef004d4ddb8f89d87f74099466696b1fd2b825a21b575a33a8ba8"), looks := true }, kinds := [], alts := [], laidByText := true, laidKinds := [.data, .data, .data, .data], laidTests := true, laidLooks := .later }
def InstEmptyCardSaid : Prop := Claim7.holds Tryd.pinned (.plain (OpenSpec.ofChange instEmptySpec)) instEmptyCard

/-- THE SECOND FORM's CARD OF 'arboristlaw06.InstReads'. -/
def instReadsUptoCard : Claim7 := { stood := { row := instReadsUptoRow, standIns := [], harness := (true, "4a5c26e7eb7ef004d4ddb8f89d87f74099466696b1fd2b825a21b575a33a8ba8"), looks := true }, kinds := [], alts := [], laidByText := true, laidKinds := [.data, .data, .data, .data], laidTests := true, laidLooks := .later }
def InstReadsUptoCardSaid : Prop := Claim7.holds Tryd.pinned (.plain (OpenSpec.upto instReadsSpec)) instReadsUptoCard

/-- THE SECOND FORM's CARD OF 'arboristlaw06.InstBehind'. -/
def instBehindUptoCard : Claim7 := { stood := { row := instBehindUptoRow, standIns := [], harness := (true, "4a5c26e7eb7ef004d4ddb8f89d87f74099466696b1fd2b825a21b575a33a8ba8"), looks := true }, kinds := [], alts := [], laidByText := true, laidKinds := [.data, .data, .data, .data], laidTests := true, laidLooks := .later }
def InstBehindUptoCardSaid : Prop := Claim7.holds Tryd.pinned (.plain (OpenSpec.upto instBehindSpec)) instBehindUptoCard

/-- THE SECOND FORM's CARD OF 'arboristlaw06.InstMany'. -/
def instManyUptoCard : Claim7 := { stood := { row := instManyUptoRow, standIns := [], harness := (true, "4a5c26e7eb7ef004d4ddb8f89d87f74099466696b1fd2b825a21b575a33a8ba8"), looks := true }, kinds := [], alts := [], laidByText := true, laidKinds := [.data, .data, .data, .data], laidTests := true, laidLooks := .later }
def InstManyUptoCardSaid : Prop := Claim7.holds Tryd.pinned (.plain (OpenSpec.upto instManySpec)) instManyUptoCard

/-- THE SECOND FORM's CARD OF 'arboristlaw06.InstEmpty'. -/
def instEmptyUptoCard : Claim7 := { stood := { row := instEmptyUptoRow, standIns := [], harness := (true, "4a5c26e7eb7ef004d4ddb8f89d87f74099466696b1fd2b825a21b575a33a8ba8"), looks := true }, kinds := [], alts := [], laidByText := true, laidKinds := [.data, .data, .data, .data], laidTests := true, laidLooks := .later }
def InstEmptyUptoCardSaid : Prop := Claim7.holds Tryd.pinned (.plain (OpenSpec.upto instEmptySpec)) instEmptyUptoCard
end Rows
end Go.Proofs.YtoiokplgkanepaaDoor
