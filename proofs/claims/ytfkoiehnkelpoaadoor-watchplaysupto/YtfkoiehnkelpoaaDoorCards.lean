/-
  DERIVED. GIVEN WITH THE SEED: THE CARDS: each row of YtfkoiehnkelpoaaDoorRows.lean that lists a variable, with what it lists TIED to the program's text (the seventh form; the later family's looks); each row that meets fmt, with fmt's text TOLD by the authors' own Lean function (tested against real Go, not proved from fmt's source: count such statements apart). THE CARD IS WHAT COUNTS. Prove the row's statement (the work); the ties are given (YtfkoiehnkelpoaaDoorTie.lean); close each card by the builder's one call (the guide's Derived/Test/ToyasCard.lean, 'card_holds'). Laid BY PROGRAM, IN A SANDBOX (cutbox-door.mjs). By AI agents, Wed Nov 11 2026. No macro, syntax, notation, axiom, sorry.
-/
import Derived.Test.YtfkoiehnkelpoaaDoorRows
import GoSem.ClaimSeven
namespace Go.Proofs.YtfkoiehnkelpoaaDoor
namespace Rows

/-- THE TIED CARD OF 'bursarlaw22.WatchKeeps'. -/
def watchKeepsCard : Claim7 := { stood := { row := watchKeepsRow, standIns := [], harness := (true, "6fc6ec82f73be0dd35a5212553ac57d8c437151cc0da62c4c5b0707fd9e1d78a"), looks := false }, kinds := [], alts := [], laidByText := true, laidKinds := [.data, .data, .pinned], laidTests := true, laidLooks := .later }
def WatchKeepsCardSaid : Prop := Claim7.holds Tryd.pinned (.plain (OpenSpec.ofChange watchKeepsSpec)) watchKeepsCard

/-- THE TIED CARD OF 'bursarlaw22.WatchPieces'. -/
def watchPiecesCard : Claim7 := { stood := { row := watchPiecesRow, standIns := [], harness := (true, "6fc6ec82f73be0dd35a5212553ac57d8c437151cc0da62c4c5b0707fd9e1d78a"), looks := false }, kinds := [], alts := [], laidByText := true, laidKinds := [.data, .data, .pinned], laidTests := true, laidLooks := .later }
def WatchPiecesCardSaid : Prop := Claim7.holds Tryd.pinned (.plain (OpenSpec.ofChange watchPiecesSpec)) watchPiecesCard

/-- THE TIED CARD OF 'bursarlaw22.WatchPlays'. -/
def watchPlaysCard : Claim7 := { stood := { row := watchPlaysRow, standIns := [], harness := (true, "6fc6ec82f73be0dd35a5212553ac57d8c437151cc0da62c4c5b0707fd9e1d78a"), looks := false }, kinds := [], alts := [], laidByText := true, laidKinds := [.data, .data, .pinned], laidTests := true, laidLooks := .later }
def WatchPlaysCardSaid : Prop := Claim7.holds Tryd.pinned (.plain (OpenSpec.ofChange watchPlaysSpec)) watchPlaysCard

/-- THE TIED CARD OF 'bursarlaw22.WatchApart'. -/
def watchApartCard : Claim7 := { stood := { row := watchApartRow, standIns := [], harness := (true, "6fc6ec82f73be0dd35a5212553ac57d8c437151cc0da62c4c5b0707fd9e1d78a"), looks := false }, kinds := [], alts := [], laidByText := true, laidKinds := [.data, .data, .pinned], laidTests := true, laidLooks := .later }
def WatchApartCardSaid : Prop := Claim7.holds Tryd.pinned (.plain (OpenSpec.ofChange watchApartSpec)) watchApartCard

/-- THE TIED CARD OF 'bursarlaw22.WatchEnough'. -/
def watchEnoughCard : Claim7 := { stood := { row := watchEnoughRow, standIns := [], harness := (true, "6fc6ec82f73be0dd35a5212553ac57d8c437151cc0da62c4c5b0707fd9e1d78a"), looks := false }, kinds := [], alts := [], laidByText := true, laidKinds := [.data, .data, .pinned], laidTests := true, laidLooks := .later }
def WatchEnoughCardSaid : Prop := Claim7.holds Tryd.pinned (.plain (OpenSpec.ofChange watchEnoughSpec)) watchEnoughCard

/-- THE TIED CARD OF 'bursarlaw22.WatchReplays'. -/
def watchReplaysCard : Claim7 := { stood := { row := watchReplaysRow, standIns := [], harness := (true, "6fc6ec82f73be0dd35a5212553ac57d8c437151cc0da62c4c5b0707fd9e1d78a"), looks := false }, kinds := [], alts := [], laidByText := true, laidKinds := [.data, .data, .pinned], laidTests := true, laidLooks := .later }
def WatchReplaysCardSaid : Prop := Claim7.holds Tryd.pinned (.plain (OpenSpec.ofChange watchReplaysSpec)) watchReplaysCard

/-- THE SECOND FORM's CARD OF 'bursarlaw22.WatchKeeps'. -/
def watchKeepsUptoCard : Claim7 := { stood := { row := watchKeepsUptoRow, standIns := [], harness := (true, "6fc6ec82f73be0dd35a5212553ac57d8c437151cc0da62c4c5b0707fd9e1d78a"), looks := false }, kinds := [], alts := [], laidByText := true, laidKinds := [.data, .data, .pinned], laidTests := true, laidLooks := .later }
def WatchKeepsUptoCardSaid : Prop := Claim7.holds Tryd.pinned (.plain (OpenSpec.upto watchKeepsSpec)) watchKeepsUptoCard

/-- THE SECOND FORM's CARD OF 'bursarlaw22.WatchPieces'. -/
def watchPiecesUptoCard : Claim7 := { stood := { row := watchPiecesUptoRow, standIns := [], harness := (true, "6fc6ec82f73be0dd35a5212553ac57d8c437151cc0da62c4c5b0707fd9e1d78a"), looks := false }, kinds := [], alts := [], laidByText := true, laidKinds := [.data, .data, .pinned], laidTests := true, laidLooks := .later }
def WatchPiecesUptoCardSaid : Prop := Claim7.holds Tryd.pinned (.plain (OpenSpec.upto watchPiecesSpec)) watchPiecesUptoCard

/-- THE SECOND FORM's CARD OF 'bursarlaw22.WatchPlays'. -/
def watchPlaysUptoCard : Claim7 := { stood := { row := watchPlaysUptoRow, standIns := [], harness := (true, "6fc6ec82f73be0dd35a5212553ac57d8c437151cc0da62c4c5b0707fd9e1d78a"), looks := false }, kinds := [], alts := [], laidByText := true, laidKinds := [.data, .data, .pinned], laidTests := true, laidLooks := .later }
def WatchPlaysUptoCardSaid : Prop := Claim7.holds Tryd.pinned (.plain (OpenSpec.upto watchPlaysSpec)) watchPlaysUptoCard

/-- THE SECOND FORM's CARD OF 'bursarlaw22.WatchApart'. -/
def watchApartUptoCard : Claim7 := { stood := { row := watchApartUptoRow, standIns := [], harness := (true, "6fc6ec82f73be0dd35a5212553ac57d8c437151cc0da62c4c5b0707fd9e1d78a"), looks := false }, kinds := [], alts := [], laidByText := true, laidKinds := [.data, .data, .pinned], laidTests := true, laidLooks := .later }
def WatchApartUptoCardSaid : Prop := Claim7.holds Tryd.pinned (.plain (OpenSpec.upto watchApartSpec)) watchApartUptoCard

/-- THE SECOND FORM's CARD OF 'bursarlaw22.WatchEnough'. -/
def watchEnoughUptoCard : Claim7 := { stood := { row := watchEnoughUptoRow, standIns := [], harness := (true, "6fc6ec82f73be0dd35a5212553ac57d8c437151cc0da62c4c5b0707fd9e1d78a"), looks := false }, kinds := [], alts := [], laidByText := true, laidKinds := [.data, .data, .pinned], laidTests := true, laidLooks := .later }
def WatchEnoughUptoCardSaid : Prop := Claim7.holds Tryd.pinned (.plain (OpenSpec.upto watchEnoughSpec)) watchEnoughUptoCard

/-- THE SECOND FORM's CARD OF 'bursarlaw22.WatchReplays'. -/
def watchReplaysUptoCard : Claim7 := { stood := { row := watchReplaysUptoRow, standIns := [], harness := (true, "6fc6ec82f73be0dd35a5212553ac57d8c437151cc0da62c4c5b0707fd9e1d78a"), looks := false }, kinds := [], alts := [], laidByText := true, laidKinds := [.data, .data, .pinned], laidTests := true, laidLooks := .later }
def WatchReplaysUptoCardSaid : Prop := Claim7.holds Tryd.pinned (.plain (OpenSpec.upto watchReplaysSpec)) watchReplaysUptoCard
end Rows
end Go.Proofs.YtfkoiehnkelpoaaDoor
