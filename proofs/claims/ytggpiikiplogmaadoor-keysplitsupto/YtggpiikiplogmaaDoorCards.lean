/-
  DERIVED. GIVEN WITH THE SEED: THE CARDS: each row of YtggpiikiplogmaaDoorRows.lean that lists a variable, with what it lists TIED to the program's text (the seventh form; the later family's looks); each row that meets fmt, with fmt's text TOLD by the authors' own Lean function (tested against real Go, not proved from fmt's source: count such statements apart). THE CARD IS WHAT COUNTS. Prove the row's statement (the work); the ties are given (YtggpiikiplogmaaDoorTie.lean); close each card by the builder's one call (the guide's Derived/Test/ToyasCard.lean, 'card_holds'). Laid BY PROGRAM, IN A SANDBOX (cutbox-door.mjs). By AI agents, Wed Nov 11 2026. No macro, syntax, notation, axiom, sorry.
-/
import Derived.Test.YtggpiikiplogmaaDoorRows
import GoSem.ClaimSeven
namespace Go.Proofs.YtggpiikiplogmaaDoor
namespace Rows

/-- THE TIED CARD OF 'bursarlaw05.KeyBetween'. -/
def keyBetweenCard : Claim7 := { stood := { row := keyBetweenRow, standIns := [], harness := (true, "b2d025a90e825cb8ce5190f51998d7f4b68d689ff199909e29d027b6c06bd5a4"), looks := false }, kinds := [], alts := [], laidByText := true, laidKinds := [.data, .pinned], laidTests := true, laidLooks := .later }
def KeyBetweenCardSaid : Prop := Claim7.holds Tryd.pinned (.plain (OpenSpec.ofChange keyBetweenSpec)) keyBetweenCard

/-- THE TIED CARD OF 'bursarlaw05.KeyMemory'. -/
def keyMemoryCard : Claim7 := { stood := { row := keyMemoryRow, standIns := [], harness := (true, "b2d025a90e825cb8ce5190f51998d7f4b68d689ff199909e29d027b6c06bd5a4"), looks := false }, kinds := [], alts := [], laidByText := true, laidKinds := [.data, .pinned], laidTests := true, laidLooks := .later }
def KeyMemoryCardSaid : Prop := Claim7.holds Tryd.pinned (.plain (OpenSpec.ofChange keyMemorySpec)) keyMemoryCard

/-- THE TIED CARD OF 'bursarlaw05.KeySplits'. -/
def keySplitsCard : Claim7 := { stood := { row := keySplitsRow, standIns := [], harness := (true, "b2d025a90e825cb8ce5190f51998d7f4b68d689ff199909e29d027b6c06bd5a4"), looks := false }, kinds := [], alts := [], laidByText := true, laidKinds := [.data, .pinned], laidTests := true, laidLooks := .later }
def KeySplitsCardSaid : Prop := Claim7.holds Tryd.pinned (.plain (OpenSpec.ofChange keySplitsSpec)) keySplitsCard

/-- THE TIED CARD OF 'bursarlaw05.KeyBack'. -/
def keyBackCard : Claim7 := { stood := { row := keyBackRow, standIns := [], harness := (true, "b2d025a90e825cb8ce5190f51998d7f4b68d689ff199909e29d027b6c06bd5a4"), looks := false }, kinds := [], alts := [], laidByText := true, laidKinds := [.data, .pinned], laidTests := true, laidLooks := .later }
def KeyBackCardSaid : Prop := Claim7.holds Tryd.pinned (.plain (OpenSpec.ofChange keyBackSpec)) keyBackCard

/-- THE TIED CARD OF 'bursarlaw05.KeyOrder'. -/
def keyOrderCard : Claim7 := { stood := { row := keyOrderRow, standIns := [], harness := (true, "b2d025a90e825cb8ce5190f51998d7f4b68d689ff199909e29d027b6c06bd5a4"), looks := false }, kinds := [], alts := [], laidByText := true, laidKinds := [.data, .pinned], laidTests := true, laidLooks := .later }
def KeyOrderCardSaid : Prop := Claim7.holds Tryd.pinned (.plain (OpenSpec.ofChange keyOrderSpec)) keyOrderCard

/-- THE TIED CARD OF 'bursarlaw05.KeyNumbers'. -/
def keyNumbersCard : Claim7 := { stood := { row := keyNumbersRow, standIns := [], harness := (true, "b2d025a90e825cb8ce5190f51998d7f4b68d689ff199909e29d027b6c06bd5a4"), looks := false }, kinds := [], alts := [], laidByText := true, laidKinds := [.data, .pinned], laidTests := true, laidLooks := .later }
def KeyNumbersCardSaid : Prop := Claim7.holds Tryd.pinned (.plain (OpenSpec.ofChange keyNumbersSpec)) keyNumbersCard

/-- THE SECOND FORM's CARD OF 'bursarlaw05.KeyBetween'. -/
def keyBetweenUptoCard : Claim7 := { stood := { row := keyBetweenUptoRow, standIns := [], harness := (true, "b2d025a90e825cb8ce5190f51998d7f4b68d689ff199909e29d027b6c06bd5a4"), looks := false }, kinds := [], alts := [], laidByText := true, laidKinds := [.data, .pinned], laidTests := true, laidLooks := .later }
def KeyBetweenUptoCardSaid : Prop := Claim7.holds Tryd.pinned (.plain (OpenSpec.upto keyBetweenSpec)) keyBetweenUptoCard

/-- THE SECOND FORM's CARD OF 'bursarlaw05.KeyMemory'. -/
def keyMemoryUptoCard : Claim7 := { stood := { row := keyMemoryUptoRow, standIns := [], harness := (true, "b2d025a90e825cb8ce5190f51998d7f4b68d689ff199909e29d027b6c06bd5a4"), looks := false }, kinds := [], alts := [], laidByText := true, laidKinds := [.data, .pinned], laidTests := true, laidLooks := .later }
def KeyMemoryUptoCardSaid : Prop := Claim7.holds Tryd.pinned (.plain (OpenSpec.upto keyMemorySpec)) keyMemoryUptoCard

/-- THE SECOND FORM's CARD OF 'bursarlaw05.KeySplits'. -/
def keySplitsUptoCard : Claim7 := { stood := { row := keySplitsUptoRow, standIns := [], harness := (true, "b2d025a90e825cb8ce5190f51998d7f4b68d689ff199909e29d027b6c06bd5a4"), looks := false }, kinds := [], alts := [], laidByText := true, laidKinds := [.data, .pinned], laidTests := true, laidLooks := .later }
def KeySplitsUptoCardSaid : Prop := Claim7.holds Tryd.pinned (.plain (OpenSpec.upto keySplitsSpec)) keySplitsUptoCard

/-- THE SECOND FORM's CARD OF 'bursarlaw05.KeyBack'. -/
def keyBackUptoCard : Claim7 := { stood := { row := keyBackUptoRow, standIns := [], harness := (true, "b2d025a90e825cb8ce5190f51998d7f4b68d689ff199909e29d027b6c06bd5a4"), looks := false }, kinds := [], alts := [], laidByText := true, laidKinds := [.data, .pinned], laidTests := true, laidLooks := .later }
def KeyBackUptoCardSaid : Prop := Claim7.holds Tryd.pinned (.plain (OpenSpec.upto keyBackSpec)) keyBackUptoCard

/-- THE SECOND FORM's CARD OF 'bursarlaw05.KeyOrder'. -/
def keyOrderUptoCard : Claim7 := { stood := { row := keyOrderUptoRow, standIns := [], harness := (true, "b2d025a90e825cb8ce5190f51998d7f4b68d689ff199909e29d027b6c06bd5a4"), looks := false }, kinds := [], alts := [], laidByText := true, laidKinds := [.data, .pinned], laidTests := true, laidLooks := .later }
def KeyOrderUptoCardSaid : Prop := Claim7.holds Tryd.pinned (.plain (OpenSpec.upto keyOrderSpec)) keyOrderUptoCard

/-- THE SECOND FORM's CARD OF 'bursarlaw05.KeyNumbers'. -/
def keyNumbersUptoCard : Claim7 := { stood := { row := keyNumbersUptoRow, standIns := [], harness := (true, "b2d025a90e825cb8ce5190f51998d7f4b68d689ff199909e29d027b6c06bd5a4"), looks := false }, kinds := [], alts := [], laidByText := true, laidKinds := [.data, .pinned], laidTests := true, laidLooks := .later }
def KeyNumbersUptoCardSaid : Prop := Claim7.holds Tryd.pinned (.plain (OpenSpec.upto keyNumbersSpec)) keyNumbersUptoCard
end Rows
end Go.Proofs.YtggpiikiplogmaaDoor
