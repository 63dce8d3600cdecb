/-
  DERIVED. GIVEN WITH THE SEED: THE CARDS: each row of YtofjicjoohphcaaGreatDoorRows.lean that lists a variable, with what it lists TIED to the program's text (the seventh form; the later family's looks); each row that meets fmt, with fmt's text TOLD by the authors' own Lean function (tested against real Go, not proved from fmt's source: count such statements apart). THE CARD IS WHAT COUNTS. Prove the row's statement (the work); the ties are given (YtofjicjoohphcaaGreatDoorTie.lean); close each card by the builder's one call (the guide's Derived/Test/ToyasCard.lean, 'card_holds'). Laid BY PROGRAM, IN A SANDBOX (cutbox-door.mjs). By AI agents, Wed Nov 11 2026. No macro, syntax, notation, axiom, sorry.
-/
import Derived.Test.YtofjicjoohphcaaGreatDoorRows
import GoSem.ClaimSeven
namespace Go.Proofs.YtofjicjoohphcaaGreatDoor
namespace Rows

/-- THE TIED CARD OF 'bursarlaw13.ObjectKeys'. -/
def objectKeysCard : Claim7 := { stood := { row := objectKeysRow, standIns := [], harness := (true, "a2910e01943b674986839c9db39831161a70ba0c35fdad3afa164ca5180f5a10"), looks := false }, kinds := [], alts := [], laidByText := true, laidKinds := [.data, .pinned], laidTests := true, laidLooks := .later }
def ObjectKeysCardSaid : Prop := Claim7.holds Tryz.pinned (.plain (OpenSpec.ofChange objectKeysSpec)) objectKeysCard

/-- THE TIED CARD OF 'bursarlaw13.ObjectBack'. -/
def objectBackCard : Claim7 := { stood := { row := objectBackRow, standIns := [], harness := (true, "a2910e01943b674986839c9db39831161a70ba0c35fdad3afa164ca5180f5a10"), looks := false }, kinds := [], alts := [], laidByText := true, laidKinds := [.data, .pinned], laidTests := true, laidLooks := .later }
def ObjectBackCardSaid : Prop := Claim7.holds Tryz.pinned (.plain (OpenSpec.ofChange objectBackSpec)) objectBackCard

/-- THE TIED CARD OF 'bursarlaw13.ObjectNormal'. -/
def objectNormalCard : Claim7 := { stood := { row := objectNormalRow, standIns := [], harness := (true, "a2910e01943b674986839c9db39831161a70ba0c35fdad3afa164ca5180f5a10"), looks := false }, kinds := [], alts := [], laidByText := true, laidKinds := [.data, .pinned], laidTests := true, laidLooks := .later }
def ObjectNormalCardSaid : Prop := Claim7.holds Tryz.pinned (.plain (OpenSpec.ofChange objectNormalSpec)) objectNormalCard

/-- THE TIED CARD OF 'bursarlaw13.ObjectRecords'. -/
def objectRecordsCard : Claim7 := { stood := { row := objectRecordsRow, standIns := [], harness := (true, "a2910e01943b674986839c9db39831161a70ba0c35fdad3afa164ca5180f5a10"), looks := false }, kinds := [], alts := [], laidByText := true, laidKinds := [.data, .pinned], laidTests := true, laidLooks := .later }
def ObjectRecordsCardSaid : Prop := Claim7.holds Tryz.pinned (.plain (OpenSpec.ofChange objectRecordsSpec)) objectRecordsCard

/-- THE SECOND FORM's CARD OF 'bursarlaw13.ObjectKeys'. -/
def objectKeysUptoCard : Claim7 := { stood := { row := objectKeysUptoRow, standIns := [], harness := (true, "a2910e01943b674986839c9db39831161a70ba0c35fdad3afa164ca5180f5a10"), looks := false }, kinds := [], alts := [], laidByText := true, laidKinds := [.data, .pinned], laidTests := true, laidLooks := .later }
def ObjectKeysUptoCardSaid : Prop := Claim7.holds Tryz.pinned (.plain (OpenSpec.upto objectKeysSpec)) objectKeysUptoCard

/-- THE SECOND FORM's CARD OF 'bursarlaw13.ObjectBack'. -/
def objectBackUptoCard : Claim7 := { stood := { row := objectBackUptoRow, standIns := [], harness := (true, "a2910e01943b674986839c9db39831161a70ba0c35fdad3afa164ca5180f5a10"), looks := false }, kinds := [], alts := [], laidByText := true, laidKinds := [.data, .pinned], laidTests := true, laidLooks := .later }
def ObjectBackUptoCardSaid : Prop := Claim7.holds Tryz.pinned (.plain (OpenSpec.upto objectBackSpec)) objectBackUptoCard

/-- THE SECOND FORM's CARD OF 'bursarlaw13.ObjectNormal'. -/
def objectNormalUptoCard : Claim7 := { stood := { row := objectNormalUptoRow, standIns := [], harness := (true, "a2910e01943b674986839c9db39831161a70ba0c35fdad3afa164ca5180f5a10"), looks := false }, kinds := [], alts := [], laidByText := true, laidKinds := [.data, .pinned], laidTests := true, laidLooks := .later }
def ObjectNormalUptoCardSaid : Prop := Claim7.holds Tryz.pinned (.plain (OpenSpec.upto objectNormalSpec)) objectNormalUptoCard

/-- THE SECOND FORM's CARD OF 'bursarlaw13.ObjectRecords'. -/
def objectRecordsUptoCard : Claim7 := { stood := { row := objectRecordsUptoRow, standIns := [], harness := (true, "a2910e01943b674986839c9db39831161a70ba0c35fdad3afa164ca5180f5a10"), looks := false }, kinds := [], alts := [], laidByText := true, laidKinds := [.data, .pinned], laidTests := true, laidLooks := .later }
def ObjectRecordsUptoCardSaid : Prop := Claim7.holds Tryz.pinned (.plain (OpenSpec.upto objectRecordsSpec)) objectRecordsUptoCard
end Rows
end Go.Proofs.YtofjicjoohphcaaGreatDoor
