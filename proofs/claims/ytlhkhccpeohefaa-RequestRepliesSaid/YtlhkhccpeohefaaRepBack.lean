/-
  A reply that was read is one that a statement can hold.
-/
import Derived.Test.YtlhkhccpeohefaaRepLaw
import Derived.Test.YtlhkhccpeohefaaMText
namespace Go.Proofs.Ytlhkhccpeohefaa.L4
open Go.RowKit
open L3

theorem SmallR.cutd {r : Rp} (h : SmallR r) : CutdR r :=
  ⟨by have := h.lf; omega, fun x hx => by have := h.fs x hx; omega, by have := h.lp; omega, fun x hx => by have := h.ps x hx; omega⟩
end Go.Proofs.Ytlhkhccpeohefaa.L4
