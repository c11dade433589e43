/-
  Contracts: is there a partition.
-/
import Derived.Test.YthongbobopampaaTpLoad
import Derived.Deep.RegionHeld3
namespace Go.Proofs.Ythongbobopampaa.L9
open Go.RowKit
open Go.Maps
open L3 L4

end Go.Proofs.Ythongbobopampaa.L9
