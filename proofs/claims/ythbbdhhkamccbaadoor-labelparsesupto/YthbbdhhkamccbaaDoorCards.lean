/-
  DERIVED. GIVEN WITH THE SEED: THE CARDS: each row of YthbbdhhkamccbaaDoorRows.lean that lists a variable, with what it lists TIED to the program's text (the seventh form; the later family's looks); each row that meets fmt, with fmt's text TOLD by the authors' own Lean function (tested against real Go, not proved from fmt's source: count such statements apart). THE CARD IS WHAT COUNTS. Prove the row's statement (the work); the ties are given (YthbbdhhkamccbaaDoorTie.lean); close each card by the builder's one call (the guide's Derived/Test/ToyasCard.lean, 'card_holds'). Laid BY PROGRAM, IN A SANDBOX (cutbox-door.mjs). By AI agents, Wed Nov 11 2026. No macro, syntax, notation, axiom, sorry.
-/
import Derived.Test.YthbbdhhkamccbaaDoorRows
import GoSem.ClaimSeven
namespace Go.Proofs.YthbbdhhkamccbaaDoor
namespace Rows

/-- THE TIED CARD OF 'bursarlaw04.LabelReadsBack'. -/
def labelReadsBackCard : Claim7 := { stood := { row := labelReadsBackRow, standIns := [], harness := (true, "a14398c31ea0d89878140388fe0aec38a16b1ee7dd233ee05ab5a552cfbb9223"), looks := false }, kinds := [], alts := [], laidByText := true, laidKinds := [.data, .pinned], laidTests := true, laidLooks := .later }
def LabelReadsBackCardSaid : Prop := Claim7.holds Tryd.pinned (.plain (OpenSpec.ofChange labelReadsBackSpec)) labelReadsBackCard

/-- THE TIED CARD OF 'bursarlaw04.LabelJoins'. -/
def labelJoinsCard : Claim7 := { stood := { row := labelJoinsRow, standIns := [], harness := (true, "a14398c31ea0d89878140388fe0aec38a16b1ee7dd233ee05ab5a552cfbb9223"), looks := false }, kinds := [], alts := [], laidByText := true, laidKinds := [.data, .pinned], laidTests := true, laidLooks := .later }
def LabelJoinsCardSaid : Prop := Claim7.holds Tryd.pinned (.plain (OpenSpec.ofChange labelJoinsSpec)) labelJoinsCard

/-- THE TIED CARD OF 'bursarlaw04.LabelTermsHold'. -/
def labelTermsHoldCard : Claim7 := { stood := { row := labelTermsHoldRow, standIns := [], harness := (true, "a14398c31ea0d89878140388fe0aec38a16b1ee7dd233ee05ab5a552cfbb9223"), looks := false }, kinds := [], alts := [], laidByText := true, laidKinds := [.data, .pinned], laidTests := true, laidLooks := .later }
def LabelTermsHoldCardSaid : Prop := Claim7.holds Tryd.pinned (.plain (OpenSpec.ofChange labelTermsHoldSpec)) labelTermsHoldCard

/-- THE TIED CARD OF 'bursarlaw04.LabelKeepsApart'. -/
def labelKeepsApartCard : Claim7 := { stood := { row := labelKeepsApartRow, standIns := [], harness := (true, "a14398c31ea0d89878140388fe0aec38a16b1ee7dd233ee05ab5a552cfbb9223"), looks := false }, kinds := [], alts := [], laidByText := true, laidKinds := [.data, .pinned], laidTests := true, laidLooks := .later }
def LabelKeepsApartCardSaid : Prop := Claim7.holds Tryd.pinned (.plain (OpenSpec.ofChange labelKeepsApartSpec)) labelKeepsApartCard

/-- THE TIED CARD OF 'bursarlaw04.LabelParses'. -/
def labelParsesCard : Claim7 := { stood := { row := labelParsesRow, standIns := [], harness := (true, "a14398c31ea0d89878140388fe0aec38a16b1ee7dd233ee05ab5a552cfbb9223"), looks := false }, kinds := [], alts := [], laidByText := true, laidKinds := [.data, .pinned], laidTests := true, laidLooks := .later }
def LabelParsesCardSaid : Prop := Claim7.holds Tryd.pinned (.plain (OpenSpec.ofChange labelParsesSpec)) labelParsesCard

/-- THE TIED CARD OF 'bursarlaw04.LabelMatches'. -/
def labelMatchesCard : Claim7 := { stood := { row := labelMatchesRow, standIns := [], harness := (true, "a14398c31ea0d89878140388fe0aec38a16b1ee7dd233ee05ab5a552cfbb9223"), looks := false }, kinds := [], alts := [], laidByText := true, laidKinds := [.data, .pinned], laidTests := true, laidLooks := .later }
def LabelMatchesCardSaid : Prop := Claim7.holds Tryd.pinned (.plain (OpenSpec.ofChange labelMatchesSpec)) labelMatchesCard

/-- THE SECOND FORM's CARD OF 'bursarlaw04.LabelReadsBack'. -/
def labelReadsBackUptoCard : Claim7 := { stood := { row := labelReadsBackUptoRow, standIns := [], harness := (true, "a14398c31ea0d89878140388fe0aec38a16b1ee7dd233ee05ab5a552cfbb9223"), looks := false }, kinds := [], alts := [], laidByText := true, laidKinds := [.data, .pinned], laidTests := true, laidLooks := .later }
def LabelReadsBackUptoCardSaid : Prop := Claim7.holds Tryd.pinned (.plain (OpenSpec.upto labelReadsBackSpec)) labelReadsBackUptoCard

/-- THE SECOND FORM's CARD OF 'bursarlaw04.LabelJoins'. -/
def labelJoinsUptoCard : Claim7 := { stood := { row := labelJoinsUptoRow, standIns := [], harness := (true, "a14398c31ea0d89878140388fe0aec38a16b1ee7dd233ee05ab5a552cfbb9223"), looks := false }, kinds := [], alts := [], laidByText := true, laidKinds := [.data, .pinned], laidTests := true, laidLooks := .later }
def LabelJoinsUptoCardSaid : Prop := Claim7.holds Tryd.pinned (.plain (OpenSpec.upto labelJoinsSpec)) labelJoinsUptoCard

/-- THE SECOND FORM's CARD OF 'bursarlaw04.LabelTermsHold'. -/
def labelTermsHoldUptoCard : Claim7 := { stood := { row := labelTermsHoldUptoRow, standIns := [], harness := (true, "a14398c31ea0d89878140388fe0aec38a16b1ee7dd233ee05ab5a552cfbb9223"), looks := false }, kinds := [], alts := [], laidByText := true, laidKinds := [.data, .pinned], laidTests := true, laidLooks := .later }
def LabelTermsHoldUptoCardSaid : Prop := Claim7.holds Tryd.pinned (.plain (OpenSpec.upto labelTermsHoldSpec)) labelTermsHoldUptoCard

/-- THE SECOND FORM's CARD OF 'bursarlaw04.LabelKeepsApart'. -/
def labelKeepsApartUptoCard : Claim7 := { stood := { row := labelKeepsApartUptoRow, standIns := [], harness := (true, "a14398c31ea0d89878140388fe0aec38a16b1ee7dd233ee05ab5a552cfbb9223"), looks := false }, kinds := [], alts := [], laidByText := true, laidKinds := [.data, .pinned], laidTests := true, laidLooks := .later }
def LabelKeepsApartUptoCardSaid : Prop := Claim7.holds Tryd.pinned (.plain (OpenSpec.upto labelKeepsApartSpec)) labelKeepsApartUptoCard

/-- THE SECOND FORM's CARD OF 'bursarlaw04.LabelParses'. -/
def labelParsesUptoCard : Claim7 := { stood := { row := labelParsesUptoRow, standIns := [], harness := (true, "a14398c31ea0d89878140388fe0aec38a16b1ee7dd233ee05ab5a552cfbb9223"), looks := false }, kinds := [], alts := [], laidByText := true, laidKinds := [.data, .pinned], laidTests := true, laidLooks := .later }
def LabelParsesUptoCardSaid : Prop := Claim7.holds Tryd.pinned (.plain (OpenSpec.upto labelParsesSpec)) labelParsesUptoCard

/-- THE SECOND FORM's CARD OF 'bursarlaw04.LabelMatches'. -/
def labelMatchesUptoCard : Claim7 := { stood := { row := labelMatchesUptoRow, standIns := [], harness := (true, "a14398c31ea0d89878140388fe0aec38a16b1ee7dd233ee05ab5a552cfbb9223"), looks := false }, kinds := [], alts := [], laidByText := true, laidKinds := [.data, .pinned], laidTests := true, laidLooks := .later }
def LabelMatchesUptoCardSaid : Prop := Claim7.holds Tryd.pinned (.plain (OpenSpec.upto labelMatchesSpec)) labelMatchesUptoCard
end Rows
end Go.Proofs.YthbbdhhkamccbaaDoor
