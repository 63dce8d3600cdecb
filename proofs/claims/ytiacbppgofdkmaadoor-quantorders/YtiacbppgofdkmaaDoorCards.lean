/-
  DERIVED. GIVEN WITH THE SEED: THE CARDS: each row of YtiacbppgofdkmaaDoorRows.lean that lists a variable, with what it lists TIED to the program's text (the seventh form; the later family's looks); each row that meets fmt, with fmt's text TOLD by the authors' own Lean function (tested against real Go, not proved from fmt's source: count such statements apart). THE CARD IS WHAT COUNTS. Prove the row's statement (the work); the ties are given (YtiacbppgofdkmaaDoorTie.lean); close each card by the builder's one call (the guide's Derived/Test/ToyasCard.lean, 'card_holds'). Laid BY PROGRAM, IN A SANDBOX (cutbox-door.mjs). By AI agents, Wed Nov 11 2026. No macro, syntax, notation, axiom, sorry.
-/
import Derived.Test.YtiacbppgofdkmaaDoorRows
import GoSem.ClaimSeven
namespace Go.Proofs.YtiacbppgofdkmaaDoor
namespace Rows

/-- THE TIED CARD OF 'bursarlaw03.QuantPlain'. -/
def quantPlainCard : Claim7 := { stood := { row := quantPlainRow, standIns := [], harness := (true, "8ecd8ad2227f3e9cae6e356603626690af4a4a3824823c83342e36687bcb62c8"), looks := false }, kinds := [], alts := [], laidByText := true, laidKinds := [.data, .data, .data, .data, .data, .pinned], laidTests := true, laidLooks := .later }
def QuantPlainCardSaid : Prop := Claim7.holds Tryd.pinned (.plain (OpenSpec.ofChange quantPlainSpec)) quantPlainCard

/-- THE TIED CARD OF 'bursarlaw03.QuantMeans'. -/
def quantMeansCard : Claim7 := { stood := { row := quantMeansRow, standIns := [], harness := (true, "8ecd8ad2227f3e9cae6e356603626690af4a4a3824823c83342e36687bcb62c8"), looks := false }, kinds := [], alts := [], laidByText := true, laidKinds := [.data, .data, .data, .data, .data, .pinned], laidTests := true, laidLooks := .later }
def QuantMeansCardSaid : Prop := Claim7.holds Tryd.pinned (.plain (OpenSpec.ofChange quantMeansSpec)) quantMeansCard

/-- THE TIED CARD OF 'bursarlaw03.QuantApart'. -/
def quantApartCard : Claim7 := { stood := { row := quantApartRow, standIns := [], harness := (true, "8ecd8ad2227f3e9cae6e356603626690af4a4a3824823c83342e36687bcb62c8"), looks := false }, kinds := [], alts := [], laidByText := true, laidKinds := [.data, .data, .data, .data, .data, .data, .pinned], laidTests := true, laidLooks := .later }
def QuantApartCardSaid : Prop := Claim7.holds Tryd.pinned (.plain (OpenSpec.ofChange quantApartSpec)) quantApartCard

/-- THE TIED CARD OF 'bursarlaw03.QuantOrders'. -/
def quantOrdersCard : Claim7 := { stood := { row := quantOrdersRow, standIns := [], harness := (true, "8ecd8ad2227f3e9cae6e356603626690af4a4a3824823c83342e36687bcb62c8"), looks := false }, kinds := [], alts := [], laidByText := true, laidKinds := [.data, .data, .data, .data, .data, .data, .pinned], laidTests := true, laidLooks := .later }
def QuantOrdersCardSaid : Prop := Claim7.holds Tryd.pinned (.plain (OpenSpec.ofChange quantOrdersSpec)) quantOrdersCard

/-- THE TIED CARD OF 'bursarlaw03.QuantAddsUp'. -/
def quantAddsUpCard : Claim7 := { stood := { row := quantAddsUpRow, standIns := [], harness := (true, "8ecd8ad2227f3e9cae6e356603626690af4a4a3824823c83342e36687bcb62c8"), looks := false }, kinds := [], alts := [], laidByText := true, laidKinds := [.data, .data, .data, .data, .data, .data, .pinned], laidTests := true, laidLooks := .later }
def QuantAddsUpCardSaid : Prop := Claim7.holds Tryd.pinned (.plain (OpenSpec.ofChange quantAddsUpSpec)) quantAddsUpCard

/-- THE TIED CARD OF 'bursarlaw03.QuantPrints'. -/
def quantPrintsCard : Claim7 := { stood := { row := quantPrintsRow, standIns := [], harness := (true, "8ecd8ad2227f3e9cae6e356603626690af4a4a3824823c83342e36687bcb62c8"), looks := false }, kinds := [], alts := [], laidByText := true, laidKinds := [.data, .data, .data, .data, .data, .pinned], laidTests := true, laidLooks := .later }
def QuantPrintsCardSaid : Prop := Claim7.holds Tryd.pinned (.plain (OpenSpec.ofChange quantPrintsSpec)) quantPrintsCard

/-- THE SECOND FORM's CARD OF 'bursarlaw03.QuantPlain'. -/
def quantPlainUptoCard : Claim7 := { stood := { row := quantPlainUptoRow, standIns := [], harness := (true, "8ecd8ad2227f3e9cae6e356603626690af4a4a3824823c83342e36687bcb62c8"), looks := false }, kinds := [], alts := [], laidByText := true, laidKinds := [.data, .data, .data, .data, .data, .pinned], laidTests := true, laidLooks := .later }
def QuantPlainUptoCardSaid : Prop := Claim7.holds Tryd.pinned (.plain (OpenSpec.upto quantPlainSpec)) quantPlainUptoCard

/-- THE SECOND FORM's CARD OF 'bursarlaw03.QuantMeans'. -/
def quantMeansUptoCard : Claim7 := { stood := { row := quantMeansUptoRow, standIns := [], harness := (true, "8ecd8ad2227f3e9cae6e356603626690af4a4a3824823c83342e36687bcb62c8"), looks := false }, kinds := [], alts := [], laidByText := true, laidKinds := [.data, .data, .data, .data, .data, .pinned], laidTests := true, laidLooks := .later }
def QuantMeansUptoCardSaid : Prop := Claim7.holds Tryd.pinned (.plain (OpenSpec.upto quantMeansSpec)) quantMeansUptoCard

/-- THE SECOND FORM's CARD OF 'bursarlaw03.QuantApart'. -/
def quantApartUptoCard : Claim7 := { stood := { row := quantApartUptoRow, standIns := [], harness := (true, "8ecd8ad2227f3e9cae6e356603626690af4a4a3824823c83342e36687bcb62c8"), looks := false }, kinds := [], alts := [], laidByText := true, laidKinds := [.data, .data, .data, .data, .data, .data, .pinned], laidTests := true, laidLooks := .later }
def QuantApartUptoCardSaid : Prop := Claim7.holds Tryd.pinned (.plain (OpenSpec.upto quantApartSpec)) quantApartUptoCard

/-- THE SECOND FORM's CARD OF 'bursarlaw03.QuantOrders'. -/
def quantOrdersUptoCard : Claim7 := { stood := { row := quantOrdersUptoRow, standIns := [], harness := (true, "8ecd8ad2227f3e9cae6e356603626690af4a4a3824823c83342e36687bcb62c8"), looks := false }, kinds := [], alts := [], laidByText := true, laidKinds := [.data, .data, .data, .data, .data, .data, .pinned], laidTests := true, laidLooks := .later }
def QuantOrdersUptoCardSaid : Prop := Claim7.holds Tryd.pinned (.plain (OpenSpec.upto quantOrdersSpec)) quantOrdersUptoCard

/-- THE SECOND FORM's CARD OF 'bursarlaw03.QuantAddsUp'. -/
def quantAddsUpUptoCard : Claim7 := { stood := { row := quantAddsUpUptoRow, standIns := [], harness := (true, "8ecd8ad2227f3e9cae6e356603626690af4a4a3824823c83342e36687bcb62c8"), looks := false }, kinds := [], alts := [], laidByText := true, laidKinds := [.data, .data, .data, .data, .data, .data, .pinned], laidTests := true, laidLooks := .later }
def QuantAddsUpUptoCardSaid : Prop := Claim7.holds Tryd.pinned (.plain (OpenSpec.upto quantAddsUpSpec)) quantAddsUpUptoCard

/-- THE SECOND FORM's CARD OF 'bursarlaw03.QuantPrints'. -/
def quantPrintsUptoCard : Claim7 := { stood := { row := quantPrintsUptoRow, standIns := [], harness := (true, "8ecd8ad2227f3e9cae6e356603626690af4a4a3824823c83342e36687bcb62c8"), looks := false }, kinds := [], alts := [], laidByText := true, laidKinds := [.data, .data, .data, .data, .data, .pinned], laidTests := true, laidLooks := .later }
def QuantPrintsUptoCardSaid : Prop := Claim7.holds Tryd.pinned (.plain (OpenSpec.upto quantPrintsSpec)) quantPrintsUptoCard
end Rows
end Go.Proofs.YtiacbppgofdkmaaDoor
