/-
  Contracts over the document's own functions: Make.
-/
import Derived.Test.YthongbobopampaaTpRmake
namespace Go.Proofs.Ythongbobopampaa.L9
open Go.RowKit
open Go.Maps
open L3 L4

end Go.Proofs.Ythongbobopampaa.L9
