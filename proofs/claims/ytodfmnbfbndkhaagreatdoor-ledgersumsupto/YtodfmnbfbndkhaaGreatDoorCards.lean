/-
  DERIVED. GIVEN WITH THE SEED: THE CARDS: each row of YtodfmnbfbndkhaaGreatDoorRows.lean that lists a variable, with what it lists TIED to the program's text (the seventh form; the later family's looks); each row that meets fmt, with fmt's text TOLD by the authors' own Lean function (tested against real Go, not proved from fmt's source: count such statements apart). THE CARD IS WHAT COUNTS. Prove the row's statement (the work); the ties are given (YtodfmnbfbndkhaaGreatDoorTie.lean); close each card by the builder's one call (the guide's Derived/Test/ToyasCard.lean, 'card_holds'). Laid BY PROGRAM, IN A SANDBOX (cutbox-door.mjs). By AI agents, Wed Nov 11 2026. No macro, syntax, notation, axiom, sorry.
-/
import Derived.Test.YtodfmnbfbndkhaaGreatDoorRows
import GoSem.ClaimSeven
namespace Go.Proofs.YtodfmnbfbndkhaaGreatDoor
namespace Rows

/-- THE TIED CARD OF 'bursarlaw17.LedgerApart'. -/
def ledgerApartCard : Claim7 := { stood := { row := ledgerApartRow, standIns := [], harness := (true, "4ed405f2e6f25125407de1ae20afa7d8e986d54eab8c29815de66996d9bfbb14"), looks := false }, kinds := [], alts := [], laidByText := true, laidKinds := [.data, .data, .pinned], laidTests := true, laidLooks := .later }
def LedgerApartCardSaid : Prop := Claim7.holds Tryz.pinned (.plain (OpenSpec.ofChange ledgerApartSpec)) ledgerApartCard

/-- THE TIED CARD OF 'bursarlaw17.LedgerUndoes'. -/
def ledgerUndoesCard : Claim7 := { stood := { row := ledgerUndoesRow, standIns := [], harness := (true, "4ed405f2e6f25125407de1ae20afa7d8e986d54eab8c29815de66996d9bfbb14"), looks := false }, kinds := [], alts := [], laidByText := true, laidKinds := [.data, .data, .pinned], laidTests := true, laidLooks := .later }
def LedgerUndoesCardSaid : Prop := Claim7.holds Tryz.pinned (.plain (OpenSpec.ofChange ledgerUndoesSpec)) ledgerUndoesCard

/-- THE TIED CARD OF 'bursarlaw17.LedgerClimbs'. -/
def ledgerClimbsCard : Claim7 := { stood := { row := ledgerClimbsRow, standIns := [], harness := (true, "4ed405f2e6f25125407de1ae20afa7d8e986d54eab8c29815de66996d9bfbb14"), looks := false }, kinds := [], alts := [], laidByText := true, laidKinds := [.data, .data, .pinned], laidTests := true, laidLooks := .later }
def LedgerClimbsCardSaid : Prop := Claim7.holds Tryz.pinned (.plain (OpenSpec.ofChange ledgerClimbsSpec)) ledgerClimbsCard

/-- THE TIED CARD OF 'bursarlaw17.LedgerSums'. -/
def ledgerSumsCard : Claim7 := { stood := { row := ledgerSumsRow, standIns := [], harness := (true, "4ed405f2e6f25125407de1ae20afa7d8e986d54eab8c29815de66996d9bfbb14"), looks := false }, kinds := [], alts := [], laidByText := true, laidKinds := [.data, .data, .pinned], laidTests := true, laidLooks := .later }
def LedgerSumsCardSaid : Prop := Claim7.holds Tryz.pinned (.plain (OpenSpec.ofChange ledgerSumsSpec)) ledgerSumsCard

/-- THE TIED CARD OF 'bursarlaw17.LedgerOfMany'. -/
def ledgerOfManyCard : Claim7 := { stood := { row := ledgerOfManyRow, standIns := [], harness := (true, "4ed405f2e6f25125407de1ae20afa7d8e986d54eab8c29815de66996d9bfbb14"), looks := false }, kinds := [], alts := [], laidByText := true, laidKinds := [.data, .data, .pinned], laidTests := true, laidLooks := .later }
def LedgerOfManyCardSaid : Prop := Claim7.holds Tryz.pinned (.plain (OpenSpec.ofChange ledgerOfManySpec)) ledgerOfManyCard

/-- THE TIED CARD OF 'bursarlaw17.LedgerPlays'. -/
def ledgerPlaysCard : Claim7 := { stood := { row := ledgerPlaysRow, standIns := [], harness := (true, "4ed405f2e6f25125407de1ae20afa7d8e986d54eab8c29815de66996d9bfbb14"), looks := false }, kinds := [], alts := [], laidByText := true, laidKinds := [.data, .data, .pinned], laidTests := true, laidLooks := .later }
def LedgerPlaysCardSaid : Prop := Claim7.holds Tryz.pinned (.plain (OpenSpec.ofChange ledgerPlaysSpec)) ledgerPlaysCard

/-- THE SECOND FORM's CARD OF 'bursarlaw17.LedgerApart'. -/
def ledgerApartUptoCard : Claim7 := { stood := { row := ledgerApartUptoRow, standIns := [], harness := (true, "4ed405f2e6f25125407de1ae20afa7d8e986d54eab8c29815de66996d9bfbb14"), looks := false }, kinds := [], alts := [], laidByText := true, laidKinds := [.data, .data, .pinned], laidTests := true, laidLooks := .later }
def LedgerApartUptoCardSaid : Prop := Claim7.holds Tryz.pinned (.plain (OpenSpec.upto ledgerApartSpec)) ledgerApartUptoCard

/-- THE SECOND FORM's CARD OF 'bursarlaw17.LedgerUndoes'. -/
def ledgerUndoesUptoCard : Claim7 := { stood := { row := ledgerUndoesUptoRow, standIns := [], harness := (true, "4ed405f2e6f25125407de1ae20afa7d8e986d54eab8c29815de66996d9bfbb14"), looks := false }, kinds := [], alts := [], laidByText := true, laidKinds := [.data, .data, .pinned], laidTests := true, laidLooks := .later }
def LedgerUndoesUptoCardSaid : Prop := Claim7.holds Tryz.pinned (.plain (OpenSpec.upto ledgerUndoesSpec)) ledgerUndoesUptoCard

/-- THE SECOND FORM's CARD OF 'bursarlaw17.LedgerClimbs'. -/
def ledgerClimbsUptoCard : Claim7 := { stood := { row := ledgerClimbsUptoRow, standIns := [], harness := (true, "4ed405f2e6f25125407de1ae20afa7d8e986d54eab8c29815de66996d9bfbb14"), looks := false }, kinds := [], alts := [], laidByText := true, laidKinds := [.data, .data, .pinned], laidTests := true, laidLooks := .later }
def LedgerClimbsUptoCardSaid : Prop := Claim7.holds Tryz.pinned (.plain (OpenSpec.upto ledgerClimbsSpec)) ledgerClimbsUptoCard

/-- THE SECOND FORM's CARD OF 'bursarlaw17.LedgerSums'. -/
def ledgerSumsUptoCard : Claim7 := { stood := { row := ledgerSumsUptoRow, standIns := [], harness := (true, "4ed405f2e6f25125407de1ae20afa7d8e986d54eab8c29815de66996d9bfbb14"), looks := false }, kinds := [], alts := [], laidByText := true, laidKinds := [.data, .data, .pinned], laidTests := true, laidLooks := .later }
def LedgerSumsUptoCardSaid : Prop := Claim7.holds Tryz.pinned (.plain (OpenSpec.upto ledgerSumsSpec)) ledgerSumsUptoCard

/-- THE SECOND FORM's CARD OF 'bursarlaw17.LedgerOfMany'. -/
def ledgerOfManyUptoCard : Claim7 := { stood := { row := ledgerOfManyUptoRow, standIns := [], harness := (true, "4ed405f2e6f25125407de1ae20afa7d8e986d54eab8c29815de66996d9bfbb14"), looks := false }, kinds := [], alts := [], laidByText := true, laidKinds := [.data, .data, .pinned], laidTests := true, laidLooks := .later }
def LedgerOfManyUptoCardSaid : Prop := Claim7.holds Tryz.pinned (.plain (OpenSpec.upto ledgerOfManySpec)) ledgerOfManyUptoCard

/-- THE SECOND FORM's CARD OF 'bursarlaw17.LedgerPlays'. -/
def ledgerPlaysUptoCard : Claim7 := { stood := { row := ledgerPlaysUptoRow, standIns := [], harness := (true, "4ed405f2e6f25125407de1ae20afa7d8e986d54eab8c29815de66996d9bfbb14"), looks := false }, kinds := [], alts := [], laidByText := true, laidKinds := [.data, .data, .pinned], laidTests := true, laidLooks := .later }
def LedgerPlaysUptoCardSaid : Prop := Claim7.holds Tryz.pinned (.plain (OpenSpec.upto ledgerPlaysSpec)) ledgerPlaysUptoCard
end Rows
end Go.Proofs.YtodfmnbfbndkhaaGreatDoor
