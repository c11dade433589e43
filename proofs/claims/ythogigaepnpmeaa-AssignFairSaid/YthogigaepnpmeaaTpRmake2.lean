/-
  Contracts over the document's own functions: Make.
-/
import Derived.Test.YthogigaepnpmeaaTpRmake
namespace Go.Proofs.Ythogigaepnpmeaa.L9
open Go.RowKit
open Go.Maps
open L3 L4

end Go.Proofs.Ythogigaepnpmeaa.L9
