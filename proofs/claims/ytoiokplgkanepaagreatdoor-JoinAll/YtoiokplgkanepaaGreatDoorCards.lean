/-
  DERIVED. GIVEN WITH THE SEED: THE CARDS: each row of YtoiokplgkanepaaGreatDoorRows.lean that lists a variable, with what it lists TIED to the program's text (the seventh form; the later family's looks); each row that meets fmt, with fmt's text TOLD by the authors' own Lean function (tested against real Go, not proved from fmt's source: count such statements apart). THE CARD IS WHAT COUNTS. Prove the row's statement (the work); the ties are given (YtoiokplgkanepaaGreatDoorTie.lean); close each card by the builder's one call (the guide's Derived/Test/ToyasCard.lean, 'card_holds'). Laid BY PROGRAM, IN A SANDBOX (cutbox-door.mjs). By AI agents, Wed Nov 11 2026. No macro, syntax, notation, axiom, sorry.
-/
import Derived.Test.YtoiokplgkanepaaGreatDoorRows
import GoSem.ClaimSeven
namespace Go.Proofs.YtoiokplgkanepaaGreatDoor
namespace Rows

/-- THE TIED CARD OF 'arboristlaw03.JoinTells'. -/
def joinTellsCard : Claim7 := { stood := { row := joinTellsRow, standIns := [], harness := (true, "b710a40ed91f1a7ab9323d612b67f05f7a5c93907a40730ac9a60b2e465762de"), looks := false }, kinds := [], alts := [], laidByText := true, laidKinds := [.data, .data, .data], laidTests := true, laidLooks := .later }
def JoinTellsCardSaid : Prop := Claim7.holds Tryz.pinned (.plain (OpenSpec.ofChange joinTellsSpec)) joinTellsCard

/-- THE TIED CARD OF 'arboristlaw03.JoinAll'. -/
def joinAllCard : Claim7 := { stood := { row := joinAllRow, standIns := [], harness := (true, "b710a40ed91f1a7ab9323d612b67f05f7a5c93907a40730ac9a60b2e465762de"), looks := false }, kinds := [], alts := [], laidByText := true, laidKinds := [.data, .data, .data], laidTests := true, laidLooks := .later }
def JoinAllCardSaid : Prop := Claim7.holds Tryz.pinned (.plain (OpenSpec.ofChange joinAllSpec)) joinAllCard

/-- THE SECOND FORM's CARD OF 'arboristlaw03.JoinTells'. -/
def joinTellsUptoCard : Claim7 := { stood := { row := joinTellsUptoRow, standIns := [], harness := (true, "b710a40ed91f1a7ab9323d612b67f05f7a5c93907a40730ac9a60b2e465762de"), looks := false }, kinds := [], alts := [], laidByText := true, laidKinds := [.data, .data, .data], laidTests := true, laidLooks := .later }
def JoinTellsUptoCardSaid : Prop := Claim7.holds Tryz.pinned (.plain (OpenSpec.upto joinTellsSpec)) joinTellsUptoCard

/-- THE SECOND FORM's CARD OF 'arboristlaw03.JoinAll'. -/
def joinAllUptoCard : Claim7 := { stood := { row := joinAllUptoRow, standIns := [], harness := (true, "b710a40ed91f1a7ab9323d612b67f05f7a5c93907a40730ac9a60b2e465762de"), looks := false }, kinds := [], alts := [], laidByText := true, laidKinds := [.data, .data, .data], laidTests := true, laidLooks := .later }
def JoinAllUptoCardSaid : Prop := Claim7.holds Tryz.pinned (.plain (OpenSpec.upto joinAllSpec)) joinAllUptoCard
end Rows
end Go.Proofs.YtoiokplgkanepaaGreatDoor
