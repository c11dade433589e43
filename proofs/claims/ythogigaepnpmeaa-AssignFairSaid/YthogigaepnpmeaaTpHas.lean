/-
  Contracts: is there a partition.
-/
import Derived.Test.YthogigaepnpmeaaTpLoad
import Derived.Deep.RegionHeld3
namespace Go.Proofs.Ythogigaepnpmeaa.L9
open Go.RowKit
open Go.Maps
open L3 L4

end Go.Proofs.Ythogigaepnpmeaa.L9
