/-
  DERIVED. GIVEN WITH THE SEED: THE CARDS: each row of YtdhnpgciclbfeaaGreatDoorRows.lean that lists a variable, with what it lists TIED to the program's text (the seventh form; the later family's looks); each row that meets fmt, with fmt's text TOLD by the authors' own Lean function (tested against real Go, not proved from fmt's source: count such statements apart). THE CARD IS WHAT COUNTS. Prove the row's statement (the work); the ties are given (YtdhnpgciclbfeaaGreatDoorTie.lean); close each card by the builder's one call (the guide's Derived/Test/ToyasCard.lean, 'card_holds'). Laid BY PROGRAM, IN A SANDBOX (cutbox-door.mjs). By AI agents, Wed Nov 11 2026. No macro, syntax, notation, axiom, sorry.
-/
import Derived.Test.YtdhnpgciclbfeaaGreatDoorRows
import GoSem.ClaimSeven
namespace Go.Proofs.YtdhnpgciclbfeaaGreatDoor
namespace Rows

/-- THE TIED CARD OF 'bursarlaw21.AccessApart'. -/
def accessApartCard : Claim7 := { stood := { row := accessApartRow, standIns := [], harness := (true, "0ad25f2904b26f1c4a3f016c03eb18a5fb55ca8ddaa1ebf5c6dbc5a22dd70bc7"), looks := false }, kinds := [], alts := [], laidByText := true, laidKinds := [.data, .pinned], laidTests := true, laidLooks := .later }
def AccessApartCardSaid : Prop := Claim7.holds Tryz.pinned (.plain (OpenSpec.ofChange accessApartSpec)) accessApartCard

/-- THE TIED CARD OF 'bursarlaw21.AccessSays'. -/
def accessSaysCard : Claim7 := { stood := { row := accessSaysRow, standIns := [], harness := (true, "0ad25f2904b26f1c4a3f016c03eb18a5fb55ca8ddaa1ebf5c6dbc5a22dd70bc7"), looks := false }, kinds := [], alts := [], laidByText := true, laidKinds := [.data, .pinned], laidTests := true, laidLooks := .later }
def AccessSaysCardSaid : Prop := Claim7.holds Tryz.pinned (.plain (OpenSpec.ofChange accessSaysSpec)) accessSaysCard

/-- THE SECOND FORM's CARD OF 'bursarlaw21.AccessApart'. -/
def accessApartUptoCard : Claim7 := { stood := { row := accessApartUptoRow, standIns := [], harness := (true, "0ad25f2904b26f1c4a3f016c03eb18a5fb55ca8ddaa1ebf5c6dbc5a22dd70bc7"), looks := false }, kinds := [], alts := [], laidByText := true, laidKinds := [.data, .pinned], laidTests := true, laidLooks := .later }
def AccessApartUptoCardSaid : Prop := Claim7.holds Tryz.pinned (.plain (OpenSpec.upto accessApartSpec)) accessApartUptoCard

/-- THE SECOND FORM's CARD OF 'bursarlaw21.AccessSays'. -/
def accessSaysUptoCard : Claim7 := { stood := { row := accessSaysUptoRow, standIns := [], harness := (true, "0ad25f2904b26f1c4a3f016c03eb18a5fb55ca8ddaa1ebf5c6dbc5a22dd70bc7"), looks := false }, kinds := [], alts := [], laidByText := true, laidKinds := [.data, .pinned], laidTests := true, laidLooks := .later }
def AccessSaysUptoCardSaid : Prop := Claim7.holds Tryz.pinned (.plain (OpenSpec.upto accessSaysSpec)) accessSaysUptoCard
end Rows
end Go.Proofs.YtdhnpgciclbfeaaGreatDoor
