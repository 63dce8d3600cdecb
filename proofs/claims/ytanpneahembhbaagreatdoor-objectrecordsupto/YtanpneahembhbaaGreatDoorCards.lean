/-
  DERIVED. GIVEN WITH THE SEED: THE CARDS: each row of YtanpneahembhbaaGreatDoorRows.lean that lists a variable, with what it lists TIED to the program's text (the seventh form; the later family's looks); each row that meets fmt, with fmt's text TOLD by the authors' own Lean function (tested against real Go, not proved from fmt's source: count such statements apart). THE CARD IS WHAT COUNTS. Prove the row's statement (the work); the ties are given (YtanpneahembhbaaGreatDoorTie.lean); close each card by the builder's one call (the guide's Derived/Test/ToyasCard.lean, 'card_holds'). Laid BY PROGRAM, IN A SANDBOX (cutbox-door.mjs). By AI agents, Wed Nov 11 2026. No macro, syntax, notation, axiom, sorry.
-/
import Derived.Test.YtanpneahembhbaaGreatDoorRows
import GoSem.ClaimSeven
namespace Go.Proofs.YtanpneahembhbaaGreatDoor
namespace Rows

/-- THE TIED CARD OF 'bursarlaw13.ObjectRecords'. -/
def objectRecordsCard : Claim7 := { stood := { row := objectRecordsRow, standIns := [], harness := (true, "84f2cf9b7820c3f75db73f365f307936455518faa18de15b2d5ea47b61f255d0"), looks := false }, kinds := [], alts := [], laidByText := true, laidKinds := [.data, .pinned], laidTests := true, laidLooks := .later }
def ObjectRecordsCardSaid : Prop := Claim7.holds Tryz.pinned (.plain (OpenSpec.ofChange objectRecordsSpec)) objectRecordsCard

/-- THE SECOND FORM's CARD OF 'bursarlaw13.ObjectRecords'. -/
def objectRecordsUptoCard : Claim7 := { stood := { row := objectRecordsUptoRow, standIns := [], harness := (true, "84f2cf9b7820c3f75db73f365f307936455518faa18de15b2d5ea47b61f255d0"), looks := false }, kinds := [], alts := [], laidByText := true, laidKinds := [.data, .pinned], laidTests := true, laidLooks := .later }
def ObjectRecordsUptoCardSaid : Prop := Claim7.holds Tryz.pinned (.plain (OpenSpec.upto objectRecordsSpec)) objectRecordsUptoCard
end Rows
end Go.Proofs.YtanpneahembhbaaGreatDoor
