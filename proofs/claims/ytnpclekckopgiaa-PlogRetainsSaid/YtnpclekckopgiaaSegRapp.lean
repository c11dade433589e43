/-
  Contracts: the document's segment: records are put behind all.
-/
import Derived.Test.YtnpclekckopgiaaSegRef
namespace Go.Proofs.Ytnpclekckopgiaa.L5
open Go.RowKit
open L3 L4

end Go.Proofs.Ytnpclekckopgiaa.L5
