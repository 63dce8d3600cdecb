/-
  DERIVED. GIVEN WITH THE SEED: THE CARDS: each row of YtendjedlcobhlaaDoorRows.lean that lists a variable, with what it lists TIED to the program's text (the seventh form; the later family's looks); each row that meets fmt, with fmt's text TOLD by the authors' own Lean function (tested against real Go, not proved from fmt's source: count such statements apart). THE CARD IS WHAT COUNTS. Prove the row's statement (the work); the ties are given (YtendjedlcobhlaaDoorTie.lean); close each card by the builder's one call (the guide's Derived/Test/ToyasCard.lean, 'card_holds'). Laid BY PROGRAM, IN A SANDBOX (cutbox-door.mjs). By AI agents, Wed Nov 11 2026. No macro, syntax, notation, axiom, sorry.
-/
import Derived.Test.YtendjedlcobhlaaDoorRows
import GoSem.ClaimSeven
namespace Go.Proofs.YtendjedlcobhlaaDoor
namespace Rows

/-- THE TIED CARD OF 'bursarlaw03.QuantApart'. -/
def quantApartCard : Claim7 := { stood := { row := quantApartRow, standIns := [], harness := (true, "3c5f9319418108b9c0b257a0d70d481199a3420954d67b5de2aa7ba707e5a2f9"), looks := false }, kinds := [], alts := [], laidByText := true, laidKinds := [.data, .data, .data, .data, .data, .data, .pinned], laidTests := true, laidLooks := .later }
def QuantApartCardSaid : Prop := Claim7.holds Tryd.pinned (.plain (OpenSpec.ofChange quantApartSpec)) quantApartCard

/-- THE TIED CARD OF 'bursarlaw03.QuantAddsUp'. -/
def quantAddsUpCard : Claim7 := { stood := { row := quantAddsUpRow, standIns := [], harness := (true, "3c5f9319418108b9c0b257a0d70d481199a3420954d67b5de2aa7ba707e5a2f9"), looks := false }, kinds := [], alts := [], laidByText := true, laidKinds := [.data, .data, .data, .data, .data, .data, .pinned], laidTests := true, laidLooks := .later }
def QuantAddsUpCardSaid : Prop := Claim7.holds Tryd.pinned (.plain (OpenSpec.ofChange quantAddsUpSpec)) quantAddsUpCard

/-- THE TIED CARD OF 'bursarlaw03.QuantPrints'. -/
def quantPrintsCard : Claim7 := { stood := { row := quantPrintsRow, standIns := [], harness := (true, "3c5f9319418108b9c0b257a0d70d481199a3420954d67b5de2aa7ba707e5a2f9"), looks := false }, kinds := [], alts := [], laidByText := true, laidKinds := [.data, .data, .data, .data, .data, .pinned], laidTests := true, laidLooks := .later }
def QuantPrintsCardSaid : Prop := Claim7.holds Tryd.pinned (.plain (OpenSpec.ofChange quantPrintsSpec)) quantPrintsCard

/-- THE TIED CARD OF 'bursarlaw03.QuantParses'. -/
def quantParsesCard : Claim7 := { stood := { row := quantParsesRow, standIns := [], harness := (true, "3c5f9319418108b9c0b257a0d70d481199a3420954d67b5de2aa7ba707e5a2f9"), looks := false }, kinds := [], alts := [], laidByText := true, laidKinds := [.data, .data, .data, .data, .data, .pinned], laidTests := true, laidLooks := .later }
def QuantParsesCardSaid : Prop := Claim7.holds Tryd.pinned (.plain (OpenSpec.ofChange quantParsesSpec)) quantParsesCard

/-- THE TIED CARD OF 'bursarlaw03.QuantReckons'. -/
def quantReckonsCard : Claim7 := { stood := { row := quantReckonsRow, standIns := [], harness := (true, "3c5f9319418108b9c0b257a0d70d481199a3420954d67b5de2aa7ba707e5a2f9"), looks := false }, kinds := [], alts := [], laidByText := true, laidKinds := [.data, .data, .data, .data, .data, .pinned], laidTests := true, laidLooks := .later }
def QuantReckonsCardSaid : Prop := Claim7.holds Tryd.pinned (.plain (OpenSpec.ofChange quantReckonsSpec)) quantReckonsCard

/-- THE SECOND FORM's CARD OF 'bursarlaw03.QuantApart'. -/
def quantApartUptoCard : Claim7 := { stood := { row := quantApartUptoRow, standIns := [], harness := (true, "3c5f9319418108b9c0b257a0d70d481199a3420954d67b5de2aa7ba707e5a2f9"), looks := false }, kinds := [], alts := [], laidByText := true, laidKinds := [.data, .data, .data, .data, .data, .data, .pinned], laidTests := true, laidLooks := .later }
def QuantApartUptoCardSaid : Prop := Claim7.holds Tryd.pinned (.plain (OpenSpec.upto quantApartSpec)) quantApartUptoCard

/-- THE SECOND FORM's CARD OF 'bursarlaw03.QuantAddsUp'. -/
def quantAddsUpUptoCard : Claim7 := { stood := { row := quantAddsUpUptoRow, standIns := [], harness := (true, "3c5f9319418108b9c0b257a0d70d481199a3420954d67b5de2aa7ba707e5a2f9"), looks := false }, kinds := [], alts := [], laidByText := true, laidKinds := [.data, .data, .data, .data, .data, .data, .pinned], laidTests := true, laidLooks := .later }
def QuantAddsUpUptoCardSaid : Prop := Claim7.holds Tryd.pinned (.plain (OpenSpec.upto quantAddsUpSpec)) quantAddsUpUptoCard

/-- THE SECOND FORM's CARD OF 'bursarlaw03.QuantPrints'. -/
def quantPrintsUptoCard : Claim7 := { stood := { row := quantPrintsUptoRow, standIns := [], harness := (true, "3c5f9319418108b9c0b257a0d70d481199a3420954d67b5de2aa7ba707e5a2f9"), looks := false }, kinds := [], alts := [], laidByText := true, laidKinds := [.data, .data, .data, .data, .data, .pinned], laidTests := true, laidLooks := .later }
def QuantPrintsUptoCardSaid : Prop := Claim7.holds Tryd.pinned (.plain (OpenSpec.upto quantPrintsSpec)) quantPrintsUptoCard

/-- THE SECOND FORM's CARD OF 'bursarlaw03.QuantParses'. -/
def quantParsesUptoCard : Claim7 := { stood := { row := quantParsesUptoRow, standIns := [], harness := (true, "3c5f9319418108b9c0b257a0d70d481199a3420954d67b5de2aa7ba707e5a2f9"), looks := false }, kinds := [], alts := [], laidByText := true, laidKinds := [.data, .data, .data, .data, .data, .pinned], laidTests := true, laidLooks := .later }
def QuantParsesUptoCardSaid : Prop := Claim7.holds Tryd.pinned (.plain (OpenSpec.upto quantParsesSpec)) quantParsesUptoCard

/-- THE SECOND FORM's CARD OF 'bursarlaw03.QuantReckons'. -/
def quantReckonsUptoCard : Claim7 := { stood := { row := quantReckonsUptoRow, standIns := [], harness := (true, "3c5f9319418108b9c0b257a0d70d481199a3420954d67b5de2aa7ba707e5a2f9"), looks := false }, kinds := [], alts := [], laidByText := true, laidKinds := [.data, .data, .data, .data, .data, .pinned], laidTests := true, laidLooks := .later }
def QuantReckonsUptoCardSaid : Prop := Claim7.holds Tryd.pinned (.plain (OpenSpec.upto quantReckonsSpec)) quantReckonsUptoCard
end Rows
end Go.Proofs.YtendjedlcobhlaaDoor
