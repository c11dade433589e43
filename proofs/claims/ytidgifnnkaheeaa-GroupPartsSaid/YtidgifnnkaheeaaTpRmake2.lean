/-
  Contracts over the document's own functions: Make.
-/
import Derived.Test.YtidgifnnkaheeaaTpRmake
namespace Go.Proofs.Ytidgifnnkaheeaa.L9
open Go.RowKit
open Go.Maps
open L3 L4

end Go.Proofs.Ytidgifnnkaheeaa.L9
