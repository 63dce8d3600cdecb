/-
  DERIVED. GIVEN WITH THE SEED: THE CARDS: each row of YtofjicjoohphcaaDoorRows.lean that lists a variable, with what it lists TIED to the program's text (the seventh form; the later family's looks); each row that meets fmt, with fmt's text TOLD by the authors' own Lean function (tested against real Go, not proved from fmt's source: count such statements apart). THE CARD IS WHAT COUNTS. Prove the row's statement (the work); the ties are given (YtofjicjoohphcaaDoorTie.lean); close each card by the builder's one call (the guide's Derived/Test/ToyasCard.lean, 'card_holds'). Laid BY PROGRAM, IN A SANDBOX (cutbox-door.mjs). By AI agents, Wed Nov 11 2026. No macro, syntax, notation, axiom, sorry.
-/
import Derived.Test.YtofjicjoohphcaaDoorRows
import GoSem.ClaimSeven
namespace Go.Proofs.YtofjicjoohphcaaDoor
namespace Rows

/-- THE TIED CARD OF 'bursarlaw13.ObjectRefuses'. -/
def objectRefusesCard : Claim7 := { stood := { row := objectRefusesRow, standIns := [], harness := (true, "38e179cd60723121624f6da4eb382e1cb738d3e06e4d0e11da9b06000cfd8259"), looks := false }, kinds := [], alts := [], laidByText := true, laidKinds := [.data, .pinned], laidTests := true, laidLooks := .later }
def ObjectRefusesCardSaid : Prop := Claim7.holds Tryd.pinned (.plain (OpenSpec.ofChange objectRefusesSpec)) objectRefusesCard

/-- THE TIED CARD OF 'bursarlaw13.ObjectPlaces'. -/
def objectPlacesCard : Claim7 := { stood := { row := objectPlacesRow, standIns := [], harness := (true, "38e179cd60723121624f6da4eb382e1cb738d3e06e4d0e11da9b06000cfd8259"), looks := false }, kinds := [], alts := [], laidByText := true, laidKinds := [.data, .pinned], laidTests := true, laidLooks := .later }
def ObjectPlacesCardSaid : Prop := Claim7.holds Tryd.pinned (.plain (OpenSpec.ofChange objectPlacesSpec)) objectPlacesCard

/-- THE SECOND FORM's CARD OF 'bursarlaw13.ObjectRefuses'. -/
def objectRefusesUptoCard : Claim7 := { stood := { row := objectRefusesUptoRow, standIns := [], harness := (true, "38e179cd60723121624f6da4eb382e1cb738d3e06e4d0e11da9b06000cfd8259"), looks := false }, kinds := [], alts := [], laidByText := true, laidKinds := [.data, .pinned], laidTests := true, laidLooks := .later }
def ObjectRefusesUptoCardSaid : Prop := Claim7.holds Tryd.pinned (.plain (OpenSpec.upto objectRefusesSpec)) objectRefusesUptoCard

/-- THE SECOND FORM's CARD OF 'bursarlaw13.ObjectPlaces'. -/
def objectPlacesUptoCard : Claim7 := { stood := { row := objectPlacesUptoRow, standIns := [], harness := (true, "38e179cd60723121624f6da4eb382e1cb738d3e06e4d0e11da9b06000cfd8259"), looks := false }, kinds := [], alts := [], laidByText := true, laidKinds := [.data, .pinned], laidTests := true, laidLooks := .later }
def ObjectPlacesUptoCardSaid : Prop := Claim7.holds Tryd.pinned (.plain (OpenSpec.upto objectPlacesSpec)) objectPlacesUptoCard
end Rows
end Go.Proofs.YtofjicjoohphcaaDoor
