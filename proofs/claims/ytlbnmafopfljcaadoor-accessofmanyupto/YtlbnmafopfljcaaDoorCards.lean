/-
  DERIVED. GIVEN WITH THE SEED: THE CARDS: each row of YtlbnmafopfljcaaDoorRows.lean that lists a variable, with what it lists TIED to the program's text (the seventh form; the later family's looks); each row that meets fmt, with fmt's text TOLD by the authors' own Lean function (tested against real Go, not proved from fmt's source: count such statements apart). THE CARD IS WHAT COUNTS. Prove the row's statement (the work); the ties are given (YtlbnmafopfljcaaDoorTie.lean); close each card by the builder's one call (the guide's Derived/Test/ToyasCard.lean, 'card_holds'). Laid BY PROGRAM, IN A SANDBOX (cutbox-door.mjs). By AI agents, Wed Nov 11 2026. No macro, syntax, notation, axiom, sorry.
-/
import Derived.Test.YtlbnmafopfljcaaDoorRows
import GoSem.ClaimSeven
namespace Go.Proofs.YtlbnmafopfljcaaDoor
namespace Rows

/-- THE TIED CARD OF 'bursarlaw21.AccessOfMany'. -/
def accessOfManyCard : Claim7 := { stood := { row := accessOfManyRow, standIns := [], harness := (true, "3300c9b920f1b1aa4dfe9ea636d0f3646d7468bd81a62aac84cd52fe9edd3d31"), looks := false }, kinds := [], alts := [], laidByText := true, laidKinds := [.data, .pinned], laidTests := true, laidLooks := .later }
def AccessOfManyCardSaid : Prop := Claim7.holds Tryd.pinned (.plain (OpenSpec.ofChange accessOfManySpec)) accessOfManyCard

/-- THE SECOND FORM's CARD OF 'bursarlaw21.AccessOfMany'. -/
def accessOfManyUptoCard : Claim7 := { stood := { row := accessOfManyUptoRow, standIns := [], harness := (true, "3300c9b920f1b1aa4dfe9ea636d0f3646d7468bd81a62aac84cd52fe9edd3d31"), looks := false }, kinds := [], alts := [], laidByText := true, laidKinds := [.data, .pinned], laidTests := true, laidLooks := .later }
def AccessOfManyUptoCardSaid : Prop := Claim7.holds Tryd.pinned (.plain (OpenSpec.upto accessOfManySpec)) accessOfManyUptoCard
end Rows
end Go.Proofs.YtlbnmafopfljcaaDoor
