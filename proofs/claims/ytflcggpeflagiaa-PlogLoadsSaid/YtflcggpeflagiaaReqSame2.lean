/-
  Contracts: whether two batches, two commands are the same: the document's.
-/
import Derived.Test.YtflcggpeflagiaaMReqTops
namespace Go.Proofs.Ytflcggpeflagiaa.L4
open Go.RowKit
open L3

theorem int_off {a b : Int} (h : a ≠ b) : (a == b) = false := by simpa using h
theorem off_of {v : Bool} {P : Prop} (h : v = true ↔ P) (hn : ¬ P) : v = false := by
  cases v
  · rfl
  · exact absurd (h.1 rfl) hn
theorem on_of {v : Bool} {P : Prop} (h : v = true ↔ P) (hp : P) : v = true := h.2 hp

end Go.Proofs.Ytflcggpeflagiaa.L4
