/-
  The statements' own: turned.
-/
import Derived.Test.YtmoghdpjemidgaaPuB
namespace Go.Proofs.Ytmoghdpjemidgaa
open Go.RowKit Go.Maps
end Go.Proofs.Ytmoghdpjemidgaa
