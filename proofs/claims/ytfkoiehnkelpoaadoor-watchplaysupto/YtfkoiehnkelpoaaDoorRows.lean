/-
  NARROWER THAN 'FOR EVERY INPUT', by the rows' own cells (each row's printed sentence says how): WatchKeeps: laid · WatchPieces: laid · WatchPlays: laid · WatchApart: laid · WatchEnough: laid · WatchReplays: laid.
  DERIVED. THE GIVEN ROWS OF THIS SEAT. 6 by the template 'for every input the law returns true; each argument reads behind the call as it read before'; 0 by the template 'total and deterministic' (their statements: YtfkoiehnkelpoaaDoorTotals.lean).
  GIVEN WITH THE SEED: the statements are not yours to turn. If you find one false, say at which input.
  Laid BY PROGRAM, IN A SANDBOX (cutbox-rows.mjs): the forced cells as the released guide's own fill.sh prints them over the translation dbf04f1070944143… (all of the seat's roots in one cut). By AI agents, Wed Nov 11 2026. No macro, syntax, notation, axiom, sorry.
-/
import Derived.Test.YtfkoiehnkelpoaaDoorChecked
import GoSem.PinnedTables
import GoSem.Claim
import GoSem.ClaimJoined
import GoSem.ClaimMapViews
import Derived.JoinedTies
import Derived.KernelRfl
namespace Go.Proofs.YtfkoiehnkelpoaaDoor
/- THE CELL 'sum', in the pinned program and in every row, IS THE sha256 OF THE DUMP (.gsa) THAT YtfkoiehnkelpoaaDoorProg.lean LOADS. Nothing in Lean hashes anything: it is a label: what it is worth is what the hold of that sum in a sandbox is worth. -/
noncomputable def Tryd.pinned : Pinned := { name := "ytfkoiehnkelpoaadoor", sum := "dbf04f1070944143b3db837f95c13954d5dce6417337163f6279061f3c9992a4", checked := Tryd.checked }
namespace Rows
def none {H : Type} : Left H := { results := [], args := [] }

/- WHAT THE LISTED PACKAGE-LEVEL VARIABLES READ AS WHEN THE CALL BEGINS. Each datum BY PROGRAM (the guide's laid-datum.mjs) off the statement by which the dump's own 'gosem.cut.vars' lays the variable. In a bare row this is a premise. The card (YtfkoiehnkelpoaaDoorCards.lean) ties it to the program's text. -/
def laid_unicode_utf8_acceptRanges {H : Type} : DataW H := .agg [.agg [.lit (.int .u8 128), .lit (.int .u8 191)], .agg [.lit (.int .u8 160), .lit (.int .u8 191)], .agg [.lit (.int .u8 128), .lit (.int .u8 159)], .agg [.lit (.int .u8 144), .lit (.int .u8 191)], .agg [.lit (.int .u8 128), .lit (.int .u8 143)], .agg [.lit (.int .u8 0), .lit (.int .u8 0)], .agg [.lit (.int .u8 0), .lit (.int .u8 0)], .agg [.lit (.int .u8 0), .lit (.int .u8 0)], .agg [.lit (.int .u8 0), .lit (.int .u8 0)], .agg [.lit (.int .u8 0), .lit (.int .u8 0)], .agg [.lit (.int .u8 0), .lit (.int .u8 0)], .agg [.lit (.int .u8 0), .lit (.int .u8 0)], .agg [.lit (.int .u8 0), .lit (.int .u8 0)], .agg [.lit (.int .u8 0), .lit (.int .u8 0)], .agg [.lit (.int .u8 0), .lit (.int .u8 0)], .agg [.lit (.int .u8 0), .lit (.int .u8 0)]]
def laid_bursar_bursarlaw22_mark {H : Type} : DataW H := .agg [.lit (.int .i64 77), .lit (.int .i64 0), .lit (.bool false), .lit (.string []), .lit (.string [109, 97, 114, 107])]
/-- One of Go's own tables, pinned by name: the form's constant. -/
def laid_unicode_utf8_first : DataW Unit := Go.Pinned.utf8First

/-- 'bursarlaw22.WatchKeeps': WHATEVER THE INPUT: true; the input reads as it did. -/
def watchKeepsSpec : ChangeSpec := { name := "watchKeeps", fn := fun _ => fun
  | [d1, d2] => { results := [.lit (.bool true)], args := [d1, d2] }
  | _ => none }
def watchKeepsRow : OpenClaim := { program := "ytfkoiehnkelpoaadoor", sum := "dbf04f1070944143b3db837f95c13954d5dce6417337163f6279061f3c9992a4", func := "bursar/bursarlaw22.WatchKeeps", spec := "watchKeeps", inPlace := ["internal/bytealg.CountString", "internal/bytealg.IndexByteString", "internal/bytealg.IndexString"], named := ["unicode/utf8.first", "unicode/utf8.acceptRanges", "internal/bytealg.MaxLen", "bursar/bursarlaw22.mark"], apart := false, laid := [("unicode/utf8.acceptRanges", laid_unicode_utf8_acceptRanges), ("bursar/bursarlaw22.mark", laid_bursar_bursarlaw22_mark), ("unicode/utf8.first", laid_unicode_utf8_first)] }
def WatchKeepsSaid : Prop := watchKeepsRow.holds Tryd.pinned (OpenSpec.ofChange watchKeepsSpec)

/-- ITS FALSE NEIGHBOUR: 'it returns false'. Refute it at one input. -/
def watchKeepsWrong : ChangeSpec := { name := "watchKeeps", fn := fun _ => fun
  | [d1, d2] => { results := [.lit (.bool false)], args := [d1, d2] }
  | _ => none }
def WatchKeepsWrongFalsely : Prop := watchKeepsRow.holds Tryd.pinned (OpenSpec.ofChange watchKeepsWrong)

/-- 'bursarlaw22.WatchPieces': WHATEVER THE INPUT: true; the input reads as it did. -/
def watchPiecesSpec : ChangeSpec := { name := "watchPieces", fn := fun _ => fun
  | [d1, d2, d3, d4, d5] => { results := [.lit (.bool true)], args := [d1, d2, d3, d4, d5] }
  | _ => none }
def watchPiecesRow : OpenClaim := { program := "ytfkoiehnkelpoaadoor", sum := "dbf04f1070944143b3db837f95c13954d5dce6417337163f6279061f3c9992a4", func := "bursar/bursarlaw22.WatchPieces", spec := "watchPieces", inPlace := ["internal/bytealg.CountString", "internal/bytealg.IndexByteString", "internal/bytealg.IndexString"], named := ["unicode/utf8.first", "unicode/utf8.acceptRanges", "internal/bytealg.MaxLen", "bursar/bursarlaw22.mark"], apart := false, laid := [("unicode/utf8.acceptRanges", laid_unicode_utf8_acceptRanges), ("bursar/bursarlaw22.mark", laid_bursar_bursarlaw22_mark), ("unicode/utf8.first", laid_unicode_utf8_first)] }
def WatchPiecesSaid : Prop := watchPiecesRow.holds Tryd.pinned (OpenSpec.ofChange watchPiecesSpec)

/-- ITS FALSE NEIGHBOUR: 'it returns false'. Refute it at one input. -/
def watchPiecesWrong : ChangeSpec := { name := "watchPieces", fn := fun _ => fun
  | [d1, d2, d3, d4, d5] => { results := [.lit (.bool false)], args := [d1, d2, d3, d4, d5] }
  | _ => none }
def WatchPiecesWrongFalsely : Prop := watchPiecesRow.holds Tryd.pinned (OpenSpec.ofChange watchPiecesWrong)

/-- 'bursarlaw22.WatchPlays': WHATEVER THE INPUT: true; the input reads as it did. -/
def watchPlaysSpec : ChangeSpec := { name := "watchPlays", fn := fun _ => fun
  | [d1, d2, d3] => { results := [.lit (.bool true)], args := [d1, d2, d3] }
  | _ => none }
def watchPlaysRow : OpenClaim := { program := "ytfkoiehnkelpoaadoor", sum := "dbf04f1070944143b3db837f95c13954d5dce6417337163f6279061f3c9992a4", func := "bursar/bursarlaw22.WatchPlays", spec := "watchPlays", inPlace := ["internal/bytealg.CountString", "internal/bytealg.IndexByteString", "internal/bytealg.IndexString"], named := ["unicode/utf8.first", "unicode/utf8.acceptRanges", "internal/bytealg.MaxLen", "bursar/bursarlaw22.mark"], apart := false, laid := [("unicode/utf8.acceptRanges", laid_unicode_utf8_acceptRanges), ("bursar/bursarlaw22.mark", laid_bursar_bursarlaw22_mark), ("unicode/utf8.first", laid_unicode_utf8_first)] }
def WatchPlaysSaid : Prop := watchPlaysRow.holds Tryd.pinned (OpenSpec.ofChange watchPlaysSpec)

/-- ITS FALSE NEIGHBOUR: 'it returns false'. Refute it at one input. -/
def watchPlaysWrong : ChangeSpec := { name := "watchPlays", fn := fun _ => fun
  | [d1, d2, d3] => { results := [.lit (.bool false)], args := [d1, d2, d3] }
  | _ => none }
def WatchPlaysWrongFalsely : Prop := watchPlaysRow.holds Tryd.pinned (OpenSpec.ofChange watchPlaysWrong)

/-- 'bursarlaw22.WatchApart': WHATEVER THE INPUT: true; the input reads as it did. -/
def watchApartSpec : ChangeSpec := { name := "watchApart", fn := fun _ => fun
  | [d1, d2] => { results := [.lit (.bool true)], args := [d1, d2] }
  | _ => none }
def watchApartRow : OpenClaim := { program := "ytfkoiehnkelpoaadoor", sum := "dbf04f1070944143b3db837f95c13954d5dce6417337163f6279061f3c9992a4", func := "bursar/bursarlaw22.WatchApart", spec := "watchApart", inPlace := ["internal/bytealg.CountString", "internal/bytealg.IndexByteString", "internal/bytealg.IndexString"], unfollowed := true, recurses := true, named := ["bursar/bursarlaw22.mark", "unicode/utf8.first", "unicode/utf8.acceptRanges", "internal/bytealg.MaxLen"], apart := false, laid := [("unicode/utf8.acceptRanges", laid_unicode_utf8_acceptRanges), ("bursar/bursarlaw22.mark", laid_bursar_bursarlaw22_mark), ("unicode/utf8.first", laid_unicode_utf8_first)] }
def WatchApartSaid : Prop := watchApartRow.holds Tryd.pinned (OpenSpec.ofChange watchApartSpec)

/-- ITS FALSE NEIGHBOUR: 'it returns false'. Refute it at one input. -/
def watchApartWrong : ChangeSpec := { name := "watchApart", fn := fun _ => fun
  | [d1, d2] => { results := [.lit (.bool false)], args := [d1, d2] }
  | _ => none }
def WatchApartWrongFalsely : Prop := watchApartRow.holds Tryd.pinned (OpenSpec.ofChange watchApartWrong)

/-- 'bursarlaw22.WatchEnough': WHATEVER THE INPUT: true; the input reads as it did. -/
def watchEnoughSpec : ChangeSpec := { name := "watchEnough", fn := fun _ => fun
  | [d1, d2, d3, d4, d5] => { results := [.lit (.bool true)], args := [d1, d2, d3, d4, d5] }
  | _ => none }
def watchEnoughRow : OpenClaim := { program := "ytfkoiehnkelpoaadoor", sum := "dbf04f1070944143b3db837f95c13954d5dce6417337163f6279061f3c9992a4", func := "bursar/bursarlaw22.WatchEnough", spec := "watchEnough", inPlace := ["internal/bytealg.CountString", "internal/bytealg.IndexByteString", "internal/bytealg.IndexString"], unfollowed := true, recurses := true, named := ["unicode/utf8.first", "unicode/utf8.acceptRanges", "internal/bytealg.MaxLen", "bursar/bursarlaw22.mark"], apart := false, laid := [("unicode/utf8.acceptRanges", laid_unicode_utf8_acceptRanges), ("bursar/bursarlaw22.mark", laid_bursar_bursarlaw22_mark), ("unicode/utf8.first", laid_unicode_utf8_first)] }
def WatchEnoughSaid : Prop := watchEnoughRow.holds Tryd.pinned (OpenSpec.ofChange watchEnoughSpec)

/-- ITS FALSE NEIGHBOUR: 'it returns false'. Refute it at one input. -/
def watchEnoughWrong : ChangeSpec := { name := "watchEnough", fn := fun _ => fun
  | [d1, d2, d3, d4, d5] => { results := [.lit (.bool false)], args := [d1, d2, d3, d4, d5] }
  | _ => none }
def WatchEnoughWrongFalsely : Prop := watchEnoughRow.holds Tryd.pinned (OpenSpec.ofChange watchEnoughWrong)

/-- 'bursarlaw22.WatchReplays': WHATEVER THE INPUT: true; the input reads as it did. -/
def watchReplaysSpec : ChangeSpec := { name := "watchReplays", fn := fun _ => fun
  | [d1, d2, d3, d4] => { results := [.lit (.bool true)], args := [d1, d2, d3, d4] }
  | _ => none }
def watchReplaysRow : OpenClaim := { program := "ytfkoiehnkelpoaadoor", sum := "dbf04f1070944143b3db837f95c13954d5dce6417337163f6279061f3c9992a4", func := "bursar/bursarlaw22.WatchReplays", spec := "watchReplays", inPlace := ["internal/bytealg.CountString", "internal/bytealg.IndexByteString", "internal/bytealg.IndexString"], unfollowed := true, recurses := true, named := ["unicode/utf8.first", "unicode/utf8.acceptRanges", "internal/bytealg.MaxLen", "bursar/bursarlaw22.mark"], apart := false, laid := [("unicode/utf8.acceptRanges", laid_unicode_utf8_acceptRanges), ("bursar/bursarlaw22.mark", laid_bursar_bursarlaw22_mark), ("unicode/utf8.first", laid_unicode_utf8_first)] }
def WatchReplaysSaid : Prop := watchReplaysRow.holds Tryd.pinned (OpenSpec.ofChange watchReplaysSpec)

/-- ITS FALSE NEIGHBOUR: 'it returns false'. Refute it at one input. -/
def watchReplaysWrong : ChangeSpec := { name := "watchReplays", fn := fun _ => fun
  | [d1, d2, d3, d4] => { results := [.lit (.bool false)], args := [d1, d2, d3, d4] }
  | _ => none }
def WatchReplaysWrongFalsely : Prop := watchReplaysRow.holds Tryd.pinned (OpenSpec.ofChange watchReplaysWrong)

/- THE SECOND FORM. 'bulk': how many values and letters a reading holds, each counted each time it is reached (what is shared counts as often as it is met; a slice's spare places count too). A statement '..UptoSaid' is the law's where the arguments, and the package variables that the reading takes, are together of bulk at most 1048576: NARROWER than '..Said'. Prove '..Said' where nothing that the law and all that it calls make is longer than what came in: it says more and counts as full. Else prove '..UptoSaid'. A law counts once. -/
mutual
def uptoBulk {H : Type} : DataW H → Nat
  | .lit (.string bytes) => bytes.length + 1
  | .lit _ => 1
  | .nil => 1
  | .ptr d => uptoBulk d + 1
  | .slice elems spare => uptoBulkAll elems + uptoBulkAll spare + 1
  | .agg parts => uptoBulkAll parts + 1
  | .iface _ d => uptoBulk d + 1
  | .map entries => uptoBulkEntries entries + 1
  | .held _ => 1
def uptoBulkAll {H : Type} : List (DataW H) → Nat
  | [] => 0
  | d :: r => uptoBulk d + uptoBulkAll r
def uptoBulkEntries {H : Type} : List (Lit × DataW H) → Nat
  | [] => 0
  | x :: r => uptoBulkEntry x + uptoBulkEntries r
def uptoBulkEntry {H : Type} : Lit × DataW H → Nat
  | (.string bytes, d) => bytes.length + uptoBulk d + 1
  | (_, d) => uptoBulk d + 1
 end
def uptoSmall : (H : Type) → List (DataW H) → Bool := fun _ ds => decide (uptoBulkAll ds ≤ 1048576)
def OpenSpec.upto (s : _root_.Go.ChangeSpec) : _root_.Go.OpenSpec := { _root_.Go.OpenSpec.ofChange s with cond := some uptoSmall }

/-- 'bursarlaw22.WatchKeeps', WHERE WHAT IT READS IS OF BULK AT MOST 1048576: true; the input reads as it did. -/
def watchKeepsUptoRow : OpenClaim := { program := "ytfkoiehnkelpoaadoor", sum := "dbf04f1070944143b3db837f95c13954d5dce6417337163f6279061f3c9992a4", func := "bursar/bursarlaw22.WatchKeeps", spec := "watchKeeps", inPlace := ["internal/bytealg.CountString", "internal/bytealg.IndexByteString", "internal/bytealg.IndexString"], named := ["unicode/utf8.first", "unicode/utf8.acceptRanges", "internal/bytealg.MaxLen", "bursar/bursarlaw22.mark"], apart := false, laid := [("unicode/utf8.acceptRanges", laid_unicode_utf8_acceptRanges), ("bursar/bursarlaw22.mark", laid_bursar_bursarlaw22_mark), ("unicode/utf8.first", laid_unicode_utf8_first)], narrowed := true }
def WatchKeepsUptoSaid : Prop := watchKeepsUptoRow.holds Tryd.pinned (OpenSpec.upto watchKeepsSpec)

/-- 'bursarlaw22.WatchPieces', WHERE WHAT IT READS IS OF BULK AT MOST 1048576: true; the input reads as it did. -/
def watchPiecesUptoRow : OpenClaim := { program := "ytfkoiehnkelpoaadoor", sum := "dbf04f1070944143b3db837f95c13954d5dce6417337163f6279061f3c9992a4", func := "bursar/bursarlaw22.WatchPieces", spec := "watchPieces", inPlace := ["internal/bytealg.CountString", "internal/bytealg.IndexByteString", "internal/bytealg.IndexString"], named := ["unicode/utf8.first", "unicode/utf8.acceptRanges", "internal/bytealg.MaxLen", "bursar/bursarlaw22.mark"], apart := false, laid := [("unicode/utf8.acceptRanges", laid_unicode_utf8_acceptRanges), ("bursar/bursarlaw22.mark", laid_bursar_bursarlaw22_mark), ("unicode/utf8.first", laid_unicode_utf8_first)], narrowed := true }
def WatchPiecesUptoSaid : Prop := watchPiecesUptoRow.holds Tryd.pinned (OpenSpec.upto watchPiecesSpec)

/-- 'bursarlaw22.WatchPlays', WHERE WHAT IT READS IS OF BULK AT MOST 1048576: true; the input reads as it did. -/
def watchPlaysUptoRow : OpenClaim := { program := "ytfkoiehnkelpoaadoor", sum := "dbf04f1070944143b3db837f95c13954d5dce6417337163f6279061f3c9992a4", func := "bursar/bursarlaw22.WatchPlays", spec := "watchPlays", inPlace := ["internal/bytealg.CountString", "internal/bytealg.IndexByteString", "internal/bytealg.IndexString"], named := ["unicode/utf8.first", "unicode/utf8.acceptRanges", "internal/bytealg.MaxLen", "bursar/bursarlaw22.mark"], apart := false, laid := [("unicode/utf8.acceptRanges", laid_unicode_utf8_acceptRanges), ("bursar/bursarlaw22.mark", laid_bursar_bursarlaw22_mark), ("unicode/utf8.first", laid_unicode_utf8_first)], narrowed := true }
def WatchPlaysUptoSaid : Prop := watchPlaysUptoRow.holds Tryd.pinned (OpenSpec.upto watchPlaysSpec)

/-- 'bursarlaw22.WatchApart', WHERE WHAT IT READS IS OF BULK AT MOST 1048576: true; the input reads as it did. -/
def watchApartUptoRow : OpenClaim := { program := "ytfkoiehnkelpoaadoor", sum := "dbf04f1070944143b3db837f95c13954d5dce6417337163f6279061f3c9992a4", func := "bursar/bursarlaw22.WatchApart", spec := "watchApart", inPlace := ["internal/bytealg.CountString", "internal/bytealg.IndexByteString", "internal/bytealg.IndexString"], unfollowed := true, recurses := true, named := ["bursar/bursarlaw22.mark", "unicode/utf8.first", "unicode/utf8.acceptRanges", "internal/bytealg.MaxLen"], apart := false, laid := [("unicode/utf8.acceptRanges", laid_unicode_utf8_acceptRanges), ("bursar/bursarlaw22.mark", laid_bursar_bursarlaw22_mark), ("unicode/utf8.first", laid_unicode_utf8_first)], narrowed := true }
def WatchApartUptoSaid : Prop := watchApartUptoRow.holds Tryd.pinned (OpenSpec.upto watchApartSpec)

/-- 'bursarlaw22.WatchEnough', WHERE WHAT IT READS IS OF BULK AT MOST 1048576: true; the input reads as it did. -/
def watchEnoughUptoRow : OpenClaim := { program := "ytfkoiehnkelpoaadoor", sum := "dbf04f1070944143b3db837f95c13954d5dce6417337163f6279061f3c9992a4", func := "bursar/bursarlaw22.WatchEnough", spec := "watchEnough", inPlace := ["internal/bytealg.CountString", "internal/bytealg.IndexByteString", "internal/bytealg.IndexString"], unfollowed := true, recurses := true, named := ["unicode/utf8.first", "unicode/utf8.acceptRanges", "internal/bytealg.MaxLen", "bursar/bursarlaw22.mark"], apart := false, laid := [("unicode/utf8.acceptRanges", laid_unicode_utf8_acceptRanges), ("bursar/bursarlaw22.mark", laid_bursar_bursarlaw22_mark), ("unicode/utf8.first", laid_unicode_utf8_first)], narrowed := true }
def WatchEnoughUptoSaid : Prop := watchEnoughUptoRow.holds Tryd.pinned (OpenSpec.upto watchEnoughSpec)

/-- 'bursarlaw22.WatchReplays', WHERE WHAT IT READS IS OF BULK AT MOST 1048576: true; the input reads as it did. -/
def watchReplaysUptoRow : OpenClaim := { program := "ytfkoiehnkelpoaadoor", sum := "dbf04f1070944143b3db837f95c13954d5dce6417337163f6279061f3c9992a4", func := "bursar/bursarlaw22.WatchReplays", spec := "watchReplays", inPlace := ["internal/bytealg.CountString", "internal/bytealg.IndexByteString", "internal/bytealg.IndexString"], unfollowed := true, recurses := true, named := ["unicode/utf8.first", "unicode/utf8.acceptRanges", "internal/bytealg.MaxLen", "bursar/bursarlaw22.mark"], apart := false, laid := [("unicode/utf8.acceptRanges", laid_unicode_utf8_acceptRanges), ("bursar/bursarlaw22.mark", laid_bursar_bursarlaw22_mark), ("unicode/utf8.first", laid_unicode_utf8_first)], narrowed := true }
def WatchReplaysUptoSaid : Prop := watchReplaysUptoRow.holds Tryd.pinned (OpenSpec.upto watchReplaysSpec)

end Rows
end Go.Proofs.YtfkoiehnkelpoaaDoor
