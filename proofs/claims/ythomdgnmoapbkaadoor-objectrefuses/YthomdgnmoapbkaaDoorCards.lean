/-
  DERIVED. GIVEN WITH THE SEED: THE CARDS: each row of YthomdgnmoapbkaaDoorRows.lean that lists a variable, with what it lists TIED to the program's text (the seventh form; the later family's looks); each row that meets fmt, with fmt's text TOLD by the authors' own Lean function (tested against real Go, not proved from fmt's source: count such statements apart). THE CARD IS WHAT COUNTS. Prove the row's statement (the work); the ties are given (YthomdgnmoapbkaaDoorTie.lean); close each card by the builder's one call (the guide's Derived/Test/ToyasCard.lean, 'card_holds'). Laid BY PROGRAM, IN A SANDBOX (cutbox-door.mjs). By AI agents, Wed Nov 11 2026. No macro, syntax, notation, axiom, sorry.
-/
import Derived.Test.YthomdgnmoapbkaaDoorRows
import GoSem.ClaimSeven
namespace Go.Proofs.YthomdgnmoapbkaaDoor
namespace Rows

/-- THE TIED CARD OF 'bursarlaw13.ObjectRefuses'. -/
def objectRefusesCard : Claim7 := { stood := { row := objectRefusesRow, standIns := [], harness := (true, "7283898001c11b4af3dea5a1a6894f0b003b77b2f0813d2576d704887ea240d0"), looks := false }, kinds := [], alts := [], laidByText := true, laidKinds := [.data, .pinned], laidTests := true, laidLooks := .later }
def ObjectRefusesCardSaid : Prop := Claim7.holds Tryd.pinned (.plain (OpenSpec.ofChange objectRefusesSpec)) objectRefusesCard

/-- THE SECOND FORM's CARD OF 'bursarlaw13.ObjectRefuses'. -/
def objectRefusesUptoCard : Claim7 := { stood := { row := objectRefusesUptoRow, standIns := [], harness := (true, "7283898001c11b4af3dea5a1a6894f0b003b77b2f0813d2576d704887ea240d0"), looks := false }, kinds := [], alts := [], laidByText := true, laidKinds := [.data, .pinned], laidTests := true, laidLooks := .later }
def ObjectRefusesUptoCardSaid : Prop := Claim7.holds Tryd.pinned (.plain (OpenSpec.upto objectRefusesSpec)) objectRefusesUptoCard
end Rows
end Go.Proofs.YthomdgnmoapbkaaDoor
