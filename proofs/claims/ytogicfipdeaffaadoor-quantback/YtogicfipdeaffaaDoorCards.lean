/-
  DERIVED. GIVEN WITH THE SEED: THE CARDS: each row of YtogicfipdeaffaaDoorRows.lean that lists a variable, with what it lists TIED to the program's text (the seventh form; the later family's looks); each row that meets fmt, with fmt's text TOLD by the authors' own Lean function (tested against real Go, not proved from fmt's source: count such statements apart). THE CARD IS WHAT COUNTS. Prove the row's statement (the work); the ties are given (YtogicfipdeaffaaDoorTie.lean); close each card by the builder's one call (the guide's Derived/Test/ToyasCard.lean, 'card_holds'). Laid BY PROGRAM, IN A SANDBOX (cutbox-door.mjs). By AI agents, Wed Nov 11 2026. No macro, syntax, notation, axiom, sorry.
-/
import Derived.Test.YtogicfipdeaffaaDoorRows
import GoSem.ClaimSeven
namespace Go.Proofs.YtogicfipdeaffaaDoor
namespace Rows

/-- THE TIED CARD OF 'bursarlaw03.QuantPlain'. -/
def quantPlainCard : Claim7 := { stood := { row := quantPlainRow, standIns := [], harness := (true, "1b5e09fe0a4588d0495bb1a2d6734ad2c5c29800558d43b5106c9349b48f241f"), looks := false }, kinds := [], alts := [], laidByText := true, laidKinds := [.data, .data, .data, .data, .data, .pinned], laidTests := true, laidLooks := .later }
def QuantPlainCardSaid : Prop := Claim7.holds Tryd.pinned (.plain (OpenSpec.ofChange quantPlainSpec)) quantPlainCard

/-- THE TIED CARD OF 'bursarlaw03.QuantBack'. -/
def quantBackCard : Claim7 := { stood := { row := quantBackRow, standIns := [], harness := (true, "1b5e09fe0a4588d0495bb1a2d6734ad2c5c29800558d43b5106c9349b48f241f"), looks := false }, kinds := [], alts := [], laidByText := true, laidKinds := [.data, .data, .data, .data, .data, .pinned], laidTests := true, laidLooks := .later }
def QuantBackCardSaid : Prop := Claim7.holds Tryd.pinned (.plain (OpenSpec.ofChange quantBackSpec)) quantBackCard

/-- THE TIED CARD OF 'bursarlaw03.QuantMeans'. -/
def quantMeansCard : Claim7 := { stood := { row := quantMeansRow, standIns := [], harness := (true, "1b5e09fe0a4588d0495bb1a2d6734ad2c5c29800558d43b5106c9349b48f241f"), looks := false }, kinds := [], alts := [], laidByText := true, laidKinds := [.data, .data, .data, .data, .data, .pinned], laidTests := true, laidLooks := .later }
def QuantMeansCardSaid : Prop := Claim7.holds Tryd.pinned (.plain (OpenSpec.ofChange quantMeansSpec)) quantMeansCard

/-- THE TIED CARD OF 'bursarlaw03.QuantScales'. -/
def quantScalesCard : Claim7 := { stood := { row := quantScalesRow, standIns := [], harness := (true, "1b5e09fe0a4588d0495bb1a2d6734ad2c5c29800558d43b5106c9349b48f241f"), looks := false }, kinds := [], alts := [], laidByText := true, laidKinds := [.data, .data, .data, .data, .data, .pinned], laidTests := true, laidLooks := .later }
def QuantScalesCardSaid : Prop := Claim7.holds Tryd.pinned (.plain (OpenSpec.ofChange quantScalesSpec)) quantScalesCard

/-- THE TIED CARD OF 'bursarlaw03.QuantSums'. -/
def quantSumsCard : Claim7 := { stood := { row := quantSumsRow, standIns := [], harness := (true, "1b5e09fe0a4588d0495bb1a2d6734ad2c5c29800558d43b5106c9349b48f241f"), looks := false }, kinds := [], alts := [], laidByText := true, laidKinds := [.data, .data, .data, .data, .data, .pinned], laidTests := true, laidLooks := .later }
def QuantSumsCardSaid : Prop := Claim7.holds Tryd.pinned (.plain (OpenSpec.ofChange quantSumsSpec)) quantSumsCard

/-- THE TIED CARD OF 'bursarlaw03.QuantFinds'. -/
def quantFindsCard : Claim7 := { stood := { row := quantFindsRow, standIns := [], harness := (true, "1b5e09fe0a4588d0495bb1a2d6734ad2c5c29800558d43b5106c9349b48f241f"), looks := false }, kinds := [], alts := [], laidByText := true, laidKinds := [.data, .data, .data, .data, .data, .data, .pinned], laidTests := true, laidLooks := .later }
def QuantFindsCardSaid : Prop := Claim7.holds Tryd.pinned (.plain (OpenSpec.ofChange quantFindsSpec)) quantFindsCard

/-- THE SECOND FORM's CARD OF 'bursarlaw03.QuantPlain'. -/
def quantPlainUptoCard : Claim7 := { stood := { row := quantPlainUptoRow, standIns := [], harness := (true, "1b5e09fe0a4588d0495bb1a2d6734ad2c5c29800558d43b5106c9349b48f241f"), looks := false }, kinds := [], alts := [], laidByText := true, laidKinds := [.data, .data, .data, .data, .data, .pinned], laidTests := true, laidLooks := .later }
def QuantPlainUptoCardSaid : Prop := Claim7.holds Tryd.pinned (.plain (OpenSpec.upto quantPlainSpec)) quantPlainUptoCard

/-- THE SECOND FORM's CARD OF 'bursarlaw03.QuantBack'. -/
def quantBackUptoCard : Claim7 := { stood := { row := quantBackUptoRow, standIns := [], harness := (true, "1b5e09fe0a4588d0495bb1a2d6734ad2c5c29800558d43b5106c9349b48f241f"), looks := false }, kinds := [], alts := [], laidByText := true, laidKinds := [.data, .data, .data, .data, .data, .pinned], laidTests := true, laidLooks := .later }
def QuantBackUptoCardSaid : Prop := Claim7.holds Tryd.pinned (.plain (OpenSpec.upto quantBackSpec)) quantBackUptoCard

/-- THE SECOND FORM's CARD OF 'bursarlaw03.QuantMeans'. -/
def quantMeansUptoCard : Claim7 := { stood := { row := quantMeansUptoRow, standIns := [], harness := (true, "1b5e09fe0a4588d0495bb1a2d6734ad2c5c29800558d43b5106c9349b48f241f"), looks := false }, kinds := [], alts := [], laidByText := true, laidKinds := [.data, .data, .data, .data, .data, .pinned], laidTests := true, laidLooks := .later }
def QuantMeansUptoCardSaid : Prop := Claim7.holds Tryd.pinned (.plain (OpenSpec.upto quantMeansSpec)) quantMeansUptoCard

/-- THE SECOND FORM's CARD OF 'bursarlaw03.QuantScales'. -/
def quantScalesUptoCard : Claim7 := { stood := { row := quantScalesUptoRow, standIns := [], harness := (true, "1b5e09fe0a4588d0495bb1a2d6734ad2c5c29800558d43b5106c9349b48f241f"), looks := false }, kinds := [], alts := [], laidByText := true, laidKinds := [.data, .data, .data, .data, .data, .pinned], laidTests := true, laidLooks := .later }
def QuantScalesUptoCardSaid : Prop := Claim7.holds Tryd.pinned (.plain (OpenSpec.upto quantScalesSpec)) quantScalesUptoCard

/-- THE SECOND FORM's CARD OF 'bursarlaw03.QuantSums'. -/
def quantSumsUptoCard : Claim7 := { stood := { row := quantSumsUptoRow, standIns := [], harness := (true, "1b5e09fe0a4588d0495bb1a2d6734ad2c5c29800558d43b5106c9349b48f241f"), looks := false }, kinds := [], alts := [], laidByText := true, laidKinds := [.data, .data, .data, .data, .data, .pinned], laidTests := true, laidLooks := .later }
def QuantSumsUptoCardSaid : Prop := Claim7.holds Tryd.pinned (.plain (OpenSpec.upto quantSumsSpec)) quantSumsUptoCard

/-- THE SECOND FORM's CARD OF 'bursarlaw03.QuantFinds'. -/
def quantFindsUptoCard : Claim7 := { stood := { row := quantFindsUptoRow, standIns := [], harness := (true, "1b5e09fe0a4588d0495bb1a2d6734ad2c5c29800558d43b5106c9349b48f241f"), looks := false }, kinds := [], alts := [], laidByText := true, laidKinds := [.data, .data, .data, .data, .data, .data, .pinned], laidTests := true, laidLooks := .later }
def QuantFindsUptoCardSaid : Prop := Claim7.holds Tryd.pinned (.plain (OpenSpec.upto quantFindsSpec)) quantFindsUptoCard
end Rows
end Go.Proofs.YtogicfipdeaffaaDoor
