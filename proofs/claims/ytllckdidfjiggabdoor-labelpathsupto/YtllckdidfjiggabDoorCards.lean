/-
  DERIVED. GIVEN WITH THE SEED: THE CARDS: each row of YtllckdidfjiggabDoorRows.lean that lists a variable, with what it lists TIED to the program's text (the seventh form; the later family's looks); each row that meets fmt, with fmt's text TOLD by the authors' own Lean function (tested against real Go, not proved from fmt's source: count such statements apart). THE CARD IS WHAT COUNTS. Prove the row's statement (the work); the ties are given (YtllckdidfjiggabDoorTie.lean); close each card by the builder's one call (the guide's Derived/Test/ToyasCard.lean, 'card_holds'). Laid BY PROGRAM, IN A SANDBOX (cutbox-door.mjs). By AI agents, Wed Nov 11 2026. No macro, syntax, notation, axiom, sorry.
-/
import Derived.Test.YtllckdidfjiggabDoorRows
import GoSem.ClaimSeven
namespace Go.Proofs.YtllckdidfjiggabDoor
namespace Rows

/-- THE TIED CARD OF 'bursarlaw04.LabelParses'. -/
def labelParsesCard : Claim7 := { stood := { row := labelParsesRow, standIns := [], harness := (true, "ae979b5bba2d8e8ccaeb76ae57323c47013cab0506a04438086a680a226e169c"), looks := false }, kinds := [], alts := [], laidByText := true, laidKinds := [.data, .pinned], laidTests := true, laidLooks := .later }
def LabelParsesCardSaid : Prop := Claim7.holds Tryd.pinned (.plain (OpenSpec.ofChange labelParsesSpec)) labelParsesCard

/-- THE TIED CARD OF 'bursarlaw04.LabelPaths'. -/
def labelPathsCard : Claim7 := { stood := { row := labelPathsRow, standIns := [], harness := (true, "ae979b5bba2d8e8ccaeb76ae57323c47013cab0506a04438086a680a226e169c"), looks := false }, kinds := [], alts := [], laidByText := true, laidKinds := [.data, .pinned], laidTests := true, laidLooks := .later }
def LabelPathsCardSaid : Prop := Claim7.holds Tryd.pinned (.plain (OpenSpec.ofChange labelPathsSpec)) labelPathsCard

/-- THE TIED CARD OF 'bursarlaw04.LabelMatches'. -/
def labelMatchesCard : Claim7 := { stood := { row := labelMatchesRow, standIns := [], harness := (true, "ae979b5bba2d8e8ccaeb76ae57323c47013cab0506a04438086a680a226e169c"), looks := false }, kinds := [], alts := [], laidByText := true, laidKinds := [.data, .pinned], laidTests := true, laidLooks := .later }
def LabelMatchesCardSaid : Prop := Claim7.holds Tryd.pinned (.plain (OpenSpec.ofChange labelMatchesSpec)) labelMatchesCard

/-- THE SECOND FORM's CARD OF 'bursarlaw04.LabelParses'. -/
def labelParsesUptoCard : Claim7 := { stood := { row := labelParsesUptoRow, standIns := [], harness := (true, "ae979b5bba2d8e8ccaeb76ae57323c47013cab0506a04438086a680a226e169c"), looks := false }, kinds := [], alts := [], laidByText := true, laidKinds := [.data, .pinned], laidTests := true, laidLooks := .later }
def LabelParsesUptoCardSaid : Prop := Claim7.holds Tryd.pinned (.plain (OpenSpec.upto labelParsesSpec)) labelParsesUptoCard

/-- THE SECOND FORM's CARD OF 'bursarlaw04.LabelPaths'. -/
def labelPathsUptoCard : Claim7 := { stood := { row := labelPathsUptoRow, standIns := [], harness := (true, "ae979b5bba2d8e8ccaeb76ae57323c47013cab0506a04438086a680a226e169c"), looks := false }, kinds := [], alts := [], laidByText := true, laidKinds := [.data, .pinned], laidTests := true, laidLooks := .later }
def LabelPathsUptoCardSaid : Prop := Claim7.holds Tryd.pinned (.plain (OpenSpec.upto labelPathsSpec)) labelPathsUptoCard

/-- THE SECOND FORM's CARD OF 'bursarlaw04.LabelMatches'. -/
def labelMatchesUptoCard : Claim7 := { stood := { row := labelMatchesUptoRow, standIns := [], harness := (true, "ae979b5bba2d8e8ccaeb76ae57323c47013cab0506a04438086a680a226e169c"), looks := false }, kinds := [], alts := [], laidByText := true, laidKinds := [.data, .pinned], laidTests := true, laidLooks := .later }
def LabelMatchesUptoCardSaid : Prop := Claim7.holds Tryd.pinned (.plain (OpenSpec.upto labelMatchesSpec)) labelMatchesUptoCard
end Rows
end Go.Proofs.YtllckdidfjiggabDoor
