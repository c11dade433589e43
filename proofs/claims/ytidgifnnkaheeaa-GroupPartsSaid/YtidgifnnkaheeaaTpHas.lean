/-
  Contracts: is there a partition.
-/
import Derived.Test.YtidgifnnkaheeaaTpLoad
import Derived.Deep.RegionHeld3
namespace Go.Proofs.Ytidgifnnkaheeaa.L9
open Go.RowKit
open Go.Maps
open L3 L4

end Go.Proofs.Ytidgifnnkaheeaa.L9
