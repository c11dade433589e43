/-
  Contracts: a segment's copy.
-/
import Derived.Test.YtajnaeijkflklaaSegIndex
namespace Go.Proofs.Ytajnaeijkflklaa.L5
open Go.RowKit
open L3 L4

/-- what Copy tells: another segment in the same state, all of it new -/
def CopyP (T : TypeId) (w : World) (base next : Int) (L : List L4.Fd) (e : Ending) (w' : World) : Prop :=
  ∃ g A cap, e = .returned (.pointer (some ⟨g, 0, none⟩)) ∧ Fresh T w g A cap base next L w' ∧ Below w.heap.size w w'
theorem copy_end {T : TypeId} {w w1 : World} {A1 : Option Addr} {c1 n : Nat} {base next : Int} {L : List L4.Fd} (hn : L.length = n) (_ : (0 : Nat) ≤ n) (hown1 : w1.ownsRow w.drew.heap.size 46 5 (.slice A1 n c1) n (rowF L)) (hb1 : Below w.drew.heap.size w.drew w1) :
    CopyP T w base next L (.returned (.pointer (some ⟨w1.heap.size, 0, none⟩))) (w1.alloc (.cells #[.int .i64 base, .int .i64 next, .slice A1 n c1] T)) := by
  subst hn
  have hlt := hown1.lt
  rw [ownBlock_blk] at hlt
  refine ⟨w1.heap.size, A1, c1, rfl, ⟨⟨heap_alloc_new _ _, (own_low hown1 (Nat.zero_le _)).alloc _, ?_⟩, hb1.size, fun k e => (hlt k e).1⟩, (Below.refl _ _).drew.trans (hb1.alloc hb1.size _)⟩
  intro e
  have := (hlt _ e).2
  omega

end Go.Proofs.Ytajnaeijkflklaa.L5
