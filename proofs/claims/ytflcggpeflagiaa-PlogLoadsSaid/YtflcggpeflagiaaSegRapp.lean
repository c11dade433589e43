/-
  Contracts: the document's segment: records are put behind all.
-/
import Derived.Test.YtflcggpeflagiaaSegRef
namespace Go.Proofs.Ytflcggpeflagiaa.L5
open Go.RowKit
open L3 L4

end Go.Proofs.Ytflcggpeflagiaa.L5
