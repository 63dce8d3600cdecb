/-
  DERIVED. GIVEN WITH THE SEED: THE CARDS: each row of YtehgnbgbmicheaaGreatDoorRows.lean that lists a variable, with what it lists TIED to the program's text (the seventh form; the later family's looks); each row that meets fmt, with fmt's text TOLD by the authors' own Lean function (tested against real Go, not proved from fmt's source: count such statements apart). THE CARD IS WHAT COUNTS. Prove the row's statement (the work); the ties are given (YtehgnbgbmicheaaGreatDoorTie.lean); close each card by the builder's one call (the guide's Derived/Test/ToyasCard.lean, 'card_holds'). Laid BY PROGRAM, IN A SANDBOX (cutbox-door.mjs). By AI agents, Wed Nov 11 2026. No macro, syntax, notation, axiom, sorry.
-/
import Derived.Test.YtehgnbgbmicheaaGreatDoorRows
import GoSem.ClaimSeven
namespace Go.Proofs.YtehgnbgbmicheaaGreatDoor
namespace Rows

/-- THE TIED CARD OF 'bursarlaw13.ObjectNormal'. -/
def objectNormalCard : Claim7 := { stood := { row := objectNormalRow, standIns := [], harness := (true, "e4cfebe58b7a6b8d0b07fc4c8082a544fe489be2018b003243786e33c1db3bcd"), looks := false }, kinds := [], alts := [], laidByText := true, laidKinds := [.data, .pinned], laidTests := true, laidLooks := .later }
def ObjectNormalCardSaid : Prop := Claim7.holds Tryz.pinned (.plain (OpenSpec.ofChange objectNormalSpec)) objectNormalCard

/-- THE SECOND FORM's CARD OF 'bursarlaw13.ObjectNormal'. -/
def objectNormalUptoCard : Claim7 := { stood := { row := objectNormalUptoRow, standIns := [], harness := (true, "e4cfebe58b7a6b8d0b07fc4c8082a544fe489be2018b003243786e33c1db3bcd"), looks := false }, kinds := [], alts := [], laidByText := true, laidKinds := [.data, .pinned], laidTests := true, laidLooks := .later }
def ObjectNormalUptoCardSaid : Prop := Claim7.holds Tryz.pinned (.plain (OpenSpec.upto objectNormalSpec)) objectNormalUptoCard
end Rows
end Go.Proofs.YtehgnbgbmicheaaGreatDoor
