/-
  Contracts: the document's segment: bytes, index, whether numbers are the same.
-/
import Derived.Test.YtflcggpeflagiaaSegRkeep
namespace Go.Proofs.Ytflcggpeflagiaa.L5
open Go.RowKit
open L3 L4

theorem ReadsI.own {w : World} {base : Nat} {T : TypeId} {A : Option Addr} {cap : Nat} {l : List Int} (h : w.ownsRow base T 1 (.slice A l.length cap) l.length (rowI l)) : ReadsI w w.heap.size A l := fun h0 => by
  rcases h.2 with ⟨_, e⟩ | ⟨g, cap', cur, e, hb, hh, _⟩
  · omega
  · injection e with e1 e2 e3
    refine ⟨g, 0, e1, (Array.getElem?_eq_some_iff.1 hh).1, fun i x hx => ?_⟩
    have hc := h.cells (g := g) (by rw [e1]; rfl)
    have := hc i (.int .i64 x) (by simp [rowI, hx])
    rw [addr_add] at this
    simpa using this

end Go.Proofs.Ytflcggpeflagiaa.L5
