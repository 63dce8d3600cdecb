/-
  DERIVED. GIVEN WITH THE SEED: THE CARDS: each row of YtmkdmfjdhajiaaaGreatDoorRows.lean that lists a variable, with what it lists TIED to the program's text (the seventh form; the later family's looks); each row that meets fmt, with fmt's text TOLD by the authors' own Lean function (tested against real Go, not proved from fmt's source: count such statements apart). THE CARD IS WHAT COUNTS. Prove the row's statement (the work); the ties are given (YtmkdmfjdhajiaaaGreatDoorTie.lean); close each card by the builder's one call (the guide's Derived/Test/ToyasCard.lean, 'card_holds'). Laid BY PROGRAM, IN A SANDBOX (cutbox-door.mjs). By AI agents, Wed Nov 11 2026. No macro, syntax, notation, axiom, sorry.
-/
import Derived.Test.YtmkdmfjdhajiaaaGreatDoorRows
import GoSem.ClaimSeven
namespace Go.Proofs.YtmkdmfjdhajiaaaGreatDoor
namespace Rows

/-- THE TIED CARD OF 'bursarlaw03.QuantLists'. -/
def quantListsCard : Claim7 := { stood := { row := quantListsRow, standIns := [], harness := (true, "6f1d36efed0dadf64a306038a18c42756814817e59d86011b5c3582fbac1a9df"), looks := false }, kinds := [], alts := [], laidByText := true, laidKinds := [.data, .data, .data, .data, .data, .data, .pinned], laidTests := true, laidLooks := .later }
def QuantListsCardSaid : Prop := Claim7.holds Tryz.pinned (.plain (OpenSpec.ofChange quantListsSpec)) quantListsCard

/-- THE SECOND FORM's CARD OF 'bursarlaw03.QuantLists'. -/
def quantListsUptoCard : Claim7 := { stood := { row := quantListsUptoRow, standIns := [], harness := (true, "6f1d36efed0dadf64a306038a18c42756814817e59d86011b5c3582fbac1a9df"), looks := false }, kinds := [], alts := [], laidByText := true, laidKinds := [.data, .data, .data, .data, .data, .data, .pinned], laidTests := true, laidLooks := .later }
def QuantListsUptoCardSaid : Prop := Claim7.holds Tryz.pinned (.plain (OpenSpec.upto quantListsSpec)) quantListsUptoCard
end Rows
end Go.Proofs.YtmkdmfjdhajiaaaGreatDoor
