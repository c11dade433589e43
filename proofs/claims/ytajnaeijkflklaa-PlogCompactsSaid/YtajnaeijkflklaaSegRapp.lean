/-
  Contracts: the document's segment: records are put behind all.
-/
import Derived.Test.YtajnaeijkflklaaSegRef
namespace Go.Proofs.Ytajnaeijkflklaa.L5
open Go.RowKit
open L3 L4

end Go.Proofs.Ytajnaeijkflklaa.L5
