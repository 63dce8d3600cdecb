/-
  DERIVED. GIVEN WITH THE SEED: THE CARDS: each row of YtnmabnbfejmmhaaDoorRows.lean that lists a variable, with what it lists TIED to the program's text (the seventh form; the later family's looks); each row that meets fmt, with fmt's text TOLD by the authors' own Lean function (tested against real Go, not proved from fmt's source: count such statements apart). THE CARD IS WHAT COUNTS. Prove the row's statement (the work); the ties are given (YtnmabnbfejmmhaaDoorTie.lean); close each card by the builder's one call (the guide's Derived/Test/ToyasCard.lean, 'card_holds'). Laid BY PROGRAM, IN A SANDBOX (cutbox-door.mjs). By AI agents, Wed Nov 11 2026. No macro, syntax, notation, axiom, sorry.
-/
import Derived.Test.YtnmabnbfejmmhaaDoorRows
import GoSem.ClaimSeven
namespace Go.Proofs.YtnmabnbfejmmhaaDoor
namespace Rows

/-- THE TIED CARD OF 'bursarlaw21.AccessIsItsBindings'. -/
def accessIsItsBindingsCard : Claim7 := { stood := { row := accessIsItsBindingsRow, standIns := [], harness := (true, "5597e61d57e62d1f2120fd57a2a4a196f09c9b099f666a34eeb15f1e40fa7951"), looks := false }, kinds := [], alts := [], laidByText := true, laidKinds := [.data, .pinned], laidTests := true, laidLooks := .later }
def AccessIsItsBindingsCardSaid : Prop := Claim7.holds Tryd.pinned (.plain (OpenSpec.ofChange accessIsItsBindingsSpec)) accessIsItsBindingsCard

/-- THE SECOND FORM's CARD OF 'bursarlaw21.AccessIsItsBindings'. -/
def accessIsItsBindingsUptoCard : Claim7 := { stood := { row := accessIsItsBindingsUptoRow, standIns := [], harness := (true, "5597e61d57e62d1f2120fd57a2a4a196f09c9b099f666a34eeb15f1e40fa7951"), looks := false }, kinds := [], alts := [], laidByText := true, laidKinds := [.data, .pinned], laidTests := true, laidLooks := .later }
def AccessIsItsBindingsUptoCardSaid : Prop := Claim7.holds Tryd.pinned (.plain (OpenSpec.upto accessIsItsBindingsSpec)) accessIsItsBindingsUptoCard
end Rows
end Go.Proofs.YtnmabnbfejmmhaaDoor
