/-
  DERIVED. GIVEN WITH THE SEED: THE CARDS: each row of YtibjmmfodelhjaaDoorRows.lean that lists a variable, with what it lists TIED to the program's text (the seventh form; the later family's looks); each row that meets fmt, with fmt's text TOLD by the authors' own Lean function (tested against real Go, not proved from fmt's source: count such statements apart). THE CARD IS WHAT COUNTS. Prove the row's statement (the work); the ties are given (YtibjmmfodelhjaaDoorTie.lean); close each card by the builder's one call (the guide's Derived/Test/ToyasCard.lean, 'card_holds'). Laid BY PROGRAM, IN A SANDBOX (cutbox-door.mjs). By AI agents, Wed Nov 11 2026. No macro, syntax, notation, axiom, sorry.
-/
import Derived.Test.YtibjmmfodelhjaaDoorRows
import GoSem.ClaimSeven
namespace Go.Proofs.YtibjmmfodelhjaaDoor
namespace Rows

/-- THE TIED CARD OF 'bursarlaw15.ScopeUsesAddUp'. -/
def scopeUsesAddUpCard : Claim7 := { stood := { row := scopeUsesAddUpRow, standIns := [], harness := (true, "0d46fa35a5ae0636cf852d05a38eed3498ad5f9703574bc10e46abadd95c83bf"), looks := false }, kinds := [], alts := [], laidByText := true, laidKinds := [.data], laidTests := true, laidLooks := .later }
def ScopeUsesAddUpCardSaid : Prop := Claim7.holds Tryd.pinned (.plain (OpenSpec.ofChange scopeUsesAddUpSpec)) scopeUsesAddUpCard

/-- THE TIED CARD OF 'bursarlaw15.ScopeWithin'. -/
def scopeWithinCard : Claim7 := { stood := { row := scopeWithinRow, standIns := [], harness := (true, "0d46fa35a5ae0636cf852d05a38eed3498ad5f9703574bc10e46abadd95c83bf"), looks := false }, kinds := [], alts := [], laidByText := true, laidKinds := [.data], laidTests := true, laidLooks := .later }
def ScopeWithinCardSaid : Prop := Claim7.holds Tryd.pinned (.plain (OpenSpec.ofChange scopeWithinSpec)) scopeWithinCard

/-- THE TIED CARD OF 'bursarlaw15.ScopeKeepsApart'. -/
def scopeKeepsApartCard : Claim7 := { stood := { row := scopeKeepsApartRow, standIns := [], harness := (true, "0d46fa35a5ae0636cf852d05a38eed3498ad5f9703574bc10e46abadd95c83bf"), looks := false }, kinds := [], alts := [], laidByText := true, laidKinds := [.data], laidTests := true, laidLooks := .later }
def ScopeKeepsApartCardSaid : Prop := Claim7.holds Tryd.pinned (.plain (OpenSpec.ofChange scopeKeepsApartSpec)) scopeKeepsApartCard

/-- THE TIED CARD OF 'bursarlaw15.ScopeTexts'. -/
def scopeTextsCard : Claim7 := { stood := { row := scopeTextsRow, standIns := [], harness := (true, "0d46fa35a5ae0636cf852d05a38eed3498ad5f9703574bc10e46abadd95c83bf"), looks := false }, kinds := [], alts := [], laidByText := true, laidKinds := [.data, .data, .data, .data], laidTests := true, laidLooks := .later }
def ScopeTextsCardSaid : Prop := Claim7.holds Tryd.pinned (.plain (OpenSpec.ofChange scopeTextsSpec)) scopeTextsCard

/-- THE TIED CARD OF 'bursarlaw15.ScopeParts'. -/
def scopePartsCard : Claim7 := { stood := { row := scopePartsRow, standIns := [], harness := (true, "0d46fa35a5ae0636cf852d05a38eed3498ad5f9703574bc10e46abadd95c83bf"), looks := false }, kinds := [], alts := [], laidByText := true, laidKinds := [.data, .data, .data, .data], laidTests := true, laidLooks := .later }
def ScopePartsCardSaid : Prop := Claim7.holds Tryd.pinned (.plain (OpenSpec.ofChange scopePartsSpec)) scopePartsCard

/-- THE TIED CARD OF 'bursarlaw15.ScopeAnswers'. -/
def scopeAnswersCard : Claim7 := { stood := { row := scopeAnswersRow, standIns := [], harness := (true, "0d46fa35a5ae0636cf852d05a38eed3498ad5f9703574bc10e46abadd95c83bf"), looks := false }, kinds := [], alts := [], laidByText := true, laidKinds := [.data], laidTests := true, laidLooks := .later }
def ScopeAnswersCardSaid : Prop := Claim7.holds Tryd.pinned (.plain (OpenSpec.ofChange scopeAnswersSpec)) scopeAnswersCard

/-- THE SECOND FORM's CARD OF 'bursarlaw15.ScopeUsesAddUp'. -/
def scopeUsesAddUpUptoCard : Claim7 := { stood := { row := scopeUsesAddUpUptoRow, standIns := [], harness := (true, "0d46fa35a5ae0636cf852d05a38eed3498ad5f9703574bc10e46abadd95c83bf"), looks := false }, kinds := [], alts := [], laidByText := true, laidKinds := [.data], laidTests := true, laidLooks := .later }
def ScopeUsesAddUpUptoCardSaid : Prop := Claim7.holds Tryd.pinned (.plain (OpenSpec.upto scopeUsesAddUpSpec)) scopeUsesAddUpUptoCard

/-- THE SECOND FORM's CARD OF 'bursarlaw15.ScopeWithin'. -/
def scopeWithinUptoCard : Claim7 := { stood := { row := scopeWithinUptoRow, standIns := [], harness := (true, "0d46fa35a5ae0636cf852d05a38eed3498ad5f9703574bc10e46abadd95c83bf"), looks := false }, kinds := [], alts := [], laidByText := true, laidKinds := [.data], laidTests := true, laidLooks := .later }
def ScopeWithinUptoCardSaid : Prop := Claim7.holds Tryd.pinned (.plain (OpenSpec.upto scopeWithinSpec)) scopeWithinUptoCard

/-- THE SECOND FORM's CARD OF 'bursarlaw15.ScopeKeepsApart'. -/
def scopeKeepsApartUptoCard : Claim7 := { stood := { row := scopeKeepsApartUptoRow, standIns := [], harness := (true, "0d46fa35a5ae0636cf852d05a38eed3498ad5f9703574bc10e46abadd95c83bf"), looks := false }, kinds := [], alts := [], laidByText := true, laidKinds := [.data], laidTests := true, laidLooks := .later }
def ScopeKeepsApartUptoCardSaid : Prop := Claim7.holds Tryd.pinned (.plain (OpenSpec.upto scopeKeepsApartSpec)) scopeKeepsApartUptoCard

/-- THE SECOND FORM's CARD OF 'bursarlaw15.ScopeTexts'. -/
def scopeTextsUptoCard : Claim7 := { stood := { row := scopeTextsUptoRow, standIns := [], harness := (true, "0d46fa35a5ae0636cf852d05a38eed3498ad5f9703574bc10e46abadd95c83bf"), looks := false }, kinds := [], alts := [], laidByText := true, laidKinds := [.data, .data, .data, .data], laidTests := true, laidLooks := .later }
def ScopeTextsUptoCardSaid : Prop := Claim7.holds Tryd.pinned (.plain (OpenSpec.upto scopeTextsSpec)) scopeTextsUptoCard

/-- THE SECOND FORM's CARD OF 'bursarlaw15.ScopeParts'. -/
def scopePartsUptoCard : Claim7 := { stood := { row := scopePartsUptoRow, standIns := [], harness := (true, "0d46fa35a5ae0636cf852d05a38eed3498ad5f9703574bc10e46abadd95c83bf"), looks := false }, kinds := [], alts := [], laidByText := true, laidKinds := [.data, .data, .data, .data], laidTests := true, laidLooks := .later }
def ScopePartsUptoCardSaid : Prop := Claim7.holds Tryd.pinned (.plain (OpenSpec.upto scopePartsSpec)) scopePartsUptoCard

/-- THE SECOND FORM's CARD OF 'bursarlaw15.ScopeAnswers'. -/
def scopeAnswersUptoCard : Claim7 := { stood := { row := scopeAnswersUptoRow, standIns := [], harness := (true, "0d46fa35a5ae0636cf852d05a38eed3498ad5f9703574bc10e46abadd95c83bf"), looks := false }, kinds := [], alts := [], laidByText := true, laidKinds := [.data], laidTests := true, laidLooks := .later }
def ScopeAnswersUptoCardSaid : Prop := Claim7.holds Tryd.pinned (.plain (OpenSpec.upto scopeAnswersSpec)) scopeAnswersUptoCard
end Rows
end Go.Proofs.YtibjmmfodelhjaaDoor
