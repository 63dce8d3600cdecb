/-
  DERIVED. GIVEN WITH THE SEED: THE CARDS: each row of YtlmgpmkhbaodeaaDoorRows.lean that lists a variable, with what it lists TIED to the program's text (the seventh form; the later family's looks); each row that meets fmt, with fmt's text TOLD by the authors' own Lean function (tested against real Go, not proved from fmt's source: count such statements apart). THE CARD IS WHAT COUNTS. Prove the row's statement (the work); the ties are given (YtlmgpmkhbaodeaaDoorTie.lean); close each card by the builder's one call (the guide's Derived/Test/ToyasCard.lean, 'card_holds'). Laid BY PROGRAM, IN A SANDBOX (cutbox-door.mjs). By AI agents, Wed Nov 11 2026. No macro, syntax, notation, axiom, sorry.
-/
import Derived.Test.YtlmgpmkhbaodeaaDoorRows
import GoSem.ClaimSeven
namespace Go.Proofs.YtlmgpmkhbaodeaaDoor
namespace Rows

/-- THE TIED CARD OF 'bursarlaw03.QuantPlain'. -/
def quantPlainCard : Claim7 := { stood := { row := quantPlainRow, standIns := [], harness := (true, "78bb56afa8c7ca4eb08f11cf4173be616ca98b33da2ff9c6cb90b157206e47bf"), looks := false }, kinds := [], alts := [], laidByText := true, laidKinds := [.data, .data, .data, .data, .data, .pinned], laidTests := true, laidLooks := .later }
def QuantPlainCardSaid : Prop := Claim7.holds Tryd.pinned (.plain (OpenSpec.ofChange quantPlainSpec)) quantPlainCard

/-- THE TIED CARD OF 'bursarlaw03.QuantMeans'. -/
def quantMeansCard : Claim7 := { stood := { row := quantMeansRow, standIns := [], harness := (true, "78bb56afa8c7ca4eb08f11cf4173be616ca98b33da2ff9c6cb90b157206e47bf"), looks := false }, kinds := [], alts := [], laidByText := true, laidKinds := [.data, .data, .data, .data, .data, .pinned], laidTests := true, laidLooks := .later }
def QuantMeansCardSaid : Prop := Claim7.holds Tryd.pinned (.plain (OpenSpec.ofChange quantMeansSpec)) quantMeansCard

/-- THE TIED CARD OF 'bursarlaw03.QuantScales'. -/
def quantScalesCard : Claim7 := { stood := { row := quantScalesRow, standIns := [], harness := (true, "78bb56afa8c7ca4eb08f11cf4173be616ca98b33da2ff9c6cb90b157206e47bf"), looks := false }, kinds := [], alts := [], laidByText := true, laidKinds := [.data, .data, .data, .data, .data, .pinned], laidTests := true, laidLooks := .later }
def QuantScalesCardSaid : Prop := Claim7.holds Tryd.pinned (.plain (OpenSpec.ofChange quantScalesSpec)) quantScalesCard

/-- THE TIED CARD OF 'bursarlaw03.QuantPrints'. -/
def quantPrintsCard : Claim7 := { stood := { row := quantPrintsRow, standIns := [], harness := (true, "78bb56afa8c7ca4eb08f11cf4173be616ca98b33da2ff9c6cb90b157206e47bf"), looks := false }, kinds := [], alts := [], laidByText := true, laidKinds := [.data, .data, .data, .data, .data, .pinned], laidTests := true, laidLooks := .later }
def QuantPrintsCardSaid : Prop := Claim7.holds Tryd.pinned (.plain (OpenSpec.ofChange quantPrintsSpec)) quantPrintsCard

/-- THE TIED CARD OF 'bursarlaw03.QuantParses'. -/
def quantParsesCard : Claim7 := { stood := { row := quantParsesRow, standIns := [], harness := (true, "78bb56afa8c7ca4eb08f11cf4173be616ca98b33da2ff9c6cb90b157206e47bf"), looks := false }, kinds := [], alts := [], laidByText := true, laidKinds := [.data, .data, .data, .data, .data, .pinned], laidTests := true, laidLooks := .later }
def QuantParsesCardSaid : Prop := Claim7.holds Tryd.pinned (.plain (OpenSpec.ofChange quantParsesSpec)) quantParsesCard

/-- THE TIED CARD OF 'bursarlaw03.QuantReckons'. -/
def quantReckonsCard : Claim7 := { stood := { row := quantReckonsRow, standIns := [], harness := (true, "78bb56afa8c7ca4eb08f11cf4173be616ca98b33da2ff9c6cb90b157206e47bf"), looks := false }, kinds := [], alts := [], laidByText := true, laidKinds := [.data, .data, .data, .data, .data, .pinned], laidTests := true, laidLooks := .later }
def QuantReckonsCardSaid : Prop := Claim7.holds Tryd.pinned (.plain (OpenSpec.ofChange quantReckonsSpec)) quantReckonsCard

/-- THE SECOND FORM's CARD OF 'bursarlaw03.QuantPlain'. -/
def quantPlainUptoCard : Claim7 := { stood := { row := quantPlainUptoRow, standIns := [], harness := (true, "78bb56afa8c7ca4eb08f11cf4173be616ca98b33da2ff9c6cb90b157206e47bf"), looks := false }, kinds := [], alts := [], laidByText := true, laidKinds := [.data, .data, .data, .data, .data, .pinned], laidTests := true, laidLooks := .later }
def QuantPlainUptoCardSaid : Prop := Claim7.holds Tryd.pinned (.plain (OpenSpec.upto quantPlainSpec)) quantPlainUptoCard

/-- THE SECOND FORM's CARD OF 'bursarlaw03.QuantMeans'. -/
def quantMeansUptoCard : Claim7 := { stood := { row := quantMeansUptoRow, standIns := [], harness := (true, "78bb56afa8c7ca4eb08f11cf4173be616ca98b33da2ff9c6cb90b157206e47bf"), looks := false }, kinds := [], alts := [], laidByText := true, laidKinds := [.data, .data, .data, .data, .data, .pinned], laidTests := true, laidLooks := .later }
def QuantMeansUptoCardSaid : Prop := Claim7.holds Tryd.pinned (.plain (OpenSpec.upto quantMeansSpec)) quantMeansUptoCard

/-- THE SECOND FORM's CARD OF 'bursarlaw03.QuantScales'. -/
def quantScalesUptoCard : Claim7 := { stood := { row := quantScalesUptoRow, standIns := [], harness := (true, "78bb56afa8c7ca4eb08f11cf4173be616ca98b33da2ff9c6cb90b157206e47bf"), looks := false }, kinds := [], alts := [], laidByText := true, laidKinds := [.data, .data, .data, .data, .data, .pinned], laidTests := true, laidLooks := .later }
def QuantScalesUptoCardSaid : Prop := Claim7.holds Tryd.pinned (.plain (OpenSpec.upto quantScalesSpec)) quantScalesUptoCard

/-- THE SECOND FORM's CARD OF 'bursarlaw03.QuantPrints'. -/
def quantPrintsUptoCard : Claim7 := { stood := { row := quantPrintsUptoRow, standIns := [], harness := (true, "78bb56afa8c7ca4eb08f11cf4173be616ca98b33da2ff9c6cb90b157206e47bf"), looks := false }, kinds := [], alts := [], laidByText := true, laidKinds := [.data, .data, .data, .data, .data, .pinned], laidTests := true, laidLooks := .later }
def QuantPrintsUptoCardSaid : Prop := Claim7.holds Tryd.pinned (.plain (OpenSpec.upto quantPrintsSpec)) quantPrintsUptoCard

/-- THE SECOND FORM's CARD OF 'bursarlaw03.QuantParses'. -/
def quantParsesUptoCard : Claim7 := { stood := { row := quantParsesUptoRow, standIns := [], harness := (true, "78bb56afa8c7ca4eb08f11cf4173be616ca98b33da2ff9c6cb90b157206e47bf"), looks := false }, kinds := [], alts := [], laidByText := true, laidKinds := [.data, .data, .data, .data, .data, .pinned], laidTests := true, laidLooks := .later }
def QuantParsesUptoCardSaid : Prop := Claim7.holds Tryd.pinned (.plain (OpenSpec.upto quantParsesSpec)) quantParsesUptoCard

/-- THE SECOND FORM's CARD OF 'bursarlaw03.QuantReckons'. -/
def quantReckonsUptoCard : Claim7 := { stood := { row := quantReckonsUptoRow, standIns := [], harness := (true, "78bb56afa8c7ca4eb08f11cf4173be616ca98b33da2ff9c6cb90b157206e47bf"), looks := false }, kinds := [], alts := [], laidByText := true, laidKinds := [.data, .data, .data, .data, .data, .pinned], laidTests := true, laidLooks := .later }
def QuantReckonsUptoCardSaid : Prop := Claim7.holds Tryd.pinned (.plain (OpenSpec.upto quantReckonsSpec)) quantReckonsUptoCard
end Rows
end Go.Proofs.YtlmgpmkhbaodeaaDoor
