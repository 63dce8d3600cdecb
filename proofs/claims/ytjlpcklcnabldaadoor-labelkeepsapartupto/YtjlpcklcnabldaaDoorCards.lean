/-
  DERIVED. GIVEN WITH THE SEED: THE CARDS: each row of YtjlpcklcnabldaaDoorRows.lean that lists a variable, with what it lists TIED to the program's text (the seventh form; the later family's looks); each row that meets fmt, with fmt's text TOLD by the authors' own Lean function (tested against real Go, not proved from fmt's source: count such statements apart). THE CARD IS WHAT COUNTS. Prove the row's statement (the work); the ties are given (YtjlpcklcnabldaaDoorTie.lean); close each card by the builder's one call (the guide's Derived/Test/ToyasCard.lean, 'card_holds'). Laid BY PROGRAM, IN A SANDBOX (cutbox-door.mjs). By AI agents, Wed Nov 11 2026. No macro, syntax, notation, axiom, sorry.
-/
import Derived.Test.YtjlpcklcnabldaaDoorRows
import GoSem.ClaimSeven
namespace Go.Proofs.YtjlpcklcnabldaaDoor
namespace Rows

/-- THE TIED CARD OF 'bursarlaw04.LabelKeepsApart'. -/
def labelKeepsApartCard : Claim7 := { stood := { row := labelKeepsApartRow, standIns := [], harness := (true, "f642e06b2c02284ab35039be6234eacad39b07057c07e8ae10f4051ffb8fa175"), looks := false }, kinds := [], alts := [], laidByText := true, laidKinds := [.data, .pinned], laidTests := true, laidLooks := .later }
def LabelKeepsApartCardSaid : Prop := Claim7.holds Tryd.pinned (.plain (OpenSpec.ofChange labelKeepsApartSpec)) labelKeepsApartCard

/-- THE SECOND FORM's CARD OF 'bursarlaw04.LabelKeepsApart'. -/
def labelKeepsApartUptoCard : Claim7 := { stood := { row := labelKeepsApartUptoRow, standIns := [], harness := (true, "f642e06b2c02284ab35039be6234eacad39b07057c07e8ae10f4051ffb8fa175"), looks := false }, kinds := [], alts := [], laidByText := true, laidKinds := [.data, .pinned], laidTests := true, laidLooks := .later }
def LabelKeepsApartUptoCardSaid : Prop := Claim7.holds Tryd.pinned (.plain (OpenSpec.upto labelKeepsApartSpec)) labelKeepsApartUptoCard
end Rows
end Go.Proofs.YtjlpcklcnabldaaDoor
