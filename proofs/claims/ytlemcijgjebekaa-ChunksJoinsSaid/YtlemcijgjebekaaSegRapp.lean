/-
  Contracts: the document's segment: records are put behind all.
-/
import Derived.Test.YtlemcijgjebekaaSegRef
namespace Go.Proofs.Ytlemcijgjebekaa.L5
open Go.RowKit
open L3 L4

end Go.Proofs.Ytlemcijgjebekaa.L5
