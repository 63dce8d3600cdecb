/-
  FormatInt, of every number from 0 on.
-/
import Derived.Test.YtiacbppgofdkmaaDoorPrintN
namespace Go.Proofs.YtiacbppgofdkmaaDoor
open Go.RowKit Go.Shelf Go.Sort Go.Lib
end Go.Proofs.YtiacbppgofdkmaaDoor
