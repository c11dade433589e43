/-
  Contracts: whether a batch may be, by the document.
-/
import Derived.Test.YtcmlopflandlgaaMRecAll
namespace Go.Proofs.Ytcmlopflandlgaa.L3
open Go.RowKit

theorem num_is (n : Int) (v : Bool) (w : World) (h : Hid (numB n = v)) :
    Calls Try.prog 34 #[.int .i64 n] w fun e w' => e = .returned (.bool v) ∧ w = w' := by
  have k := num_any n w
  rw [h.out] at k
  exact k

end Go.Proofs.Ytcmlopflandlgaa.L3
