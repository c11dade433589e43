/-
  Two segments side by side, each in blocks of its own: what is done to the one leaves the other.
-/
import Derived.Test.YtpagoeoilkbmjaaSegLoads
import Derived.Test.YtpagoeoilkbmjaaSegCopy
namespace Go.Proofs.Ytpagoeoilkbmjaa.L5
open Go.RowKit
open L3 L4

/-- the blocks of one segment, and those of another -/
structure Far (g : Nat) (A : Option Addr) (k : Nat) (X : Option Addr) : Prop where
  gk : g ≠ k
  ak : blk A ≠ some k
  xg : blk X ≠ some g
  ax : ∀ j, blk A = some j → blk X ≠ some j
theorem Far.swap {g k : Nat} {A X : Option Addr} (f : Far g A k X) : Far k X g A :=
  ⟨fun e => f.gk e.symm, f.xg, f.ak, fun j h1 h2 => f.ax j h2 h1⟩
/-- two segments that were made since w -/
structure Pair (T1 T2 : TypeId) (w W : World) (g k : Nat) (A X : Option Addr) (base n1 : Int) (L1 : List L4.Fd) (n2 : Int) (L2 : List L4.Fd) : Prop where
  old : Below w.heap.size w W
  g0 : w.heap.size ≤ g
  k0 : w.heap.size ≤ k
  a0 : ∀ j, blk A = some j → w.heap.size ≤ j
  x0 : ∀ j, blk X = some j → w.heap.size ≤ j
  one : ∃ c, Seg T1 W g A c base n1 L1
  two : ∃ c, Seg T2 W k X c base n2 L2
  far : Far g A k X
section
variable {T1 T2 : TypeId} {w W W' : World} {g k : Nat} {A X : Option Addr} {base n1 n2 : Int} {L1 L2 : List L4.Fd}
theorem acc_but {h : Option Nat} (o : Below w.heap.size w W) (b : But g h W W') (h1 : w.heap.size ≤ g) (h2 : ∀ j, h = some j → w.heap.size ≤ j) : Below w.heap.size w W' :=
  o.trans (b.below o.size h1 h2)
theorem Pair.swap (p : Pair T1 T2 w W g k A X base n1 L1 n2 L2) : Pair T2 T1 w W k g X A base n2 L2 n1 L1 :=
  ⟨p.old, p.k0, p.g0, p.x0, p.a0, p.two, p.one, p.far.swap⟩
theorem Pair.below (p : Pair T1 T2 w W g k A X base n1 L1 n2 L2) (b : Below W.heap.size W W') : Pair T1 T2 w W' g k A X base n1 L1 n2 L2 :=
  ⟨acc p.old b, p.g0, p.k0, p.a0, p.x0, p.one.imp fun _ h => h.below b, p.two.imp fun _ h => h.below b, p.far⟩
theorem far_new {A' : Option Addr} (f : Far g A k X) (hk : k < W.heap.size) (hx : ∀ j, blk X = some j → j < W.heap.size) (h : ∀ j, blk A' = some j → blk A = some j ∨ W.heap.size ≤ j) : Far g A' k X where
  gk := f.gk
  ak := fun e => by
    rcases h k e with q | q
    · exact f.ak q
    · omega
  xg := f.xg
  ax := fun j e1 e2 => by
    rcases h j e1 with q | q
    · exact f.ax j q e2
    · have := hx j e2; omega
/-- a step of the first -/
theorem Pair.step (p : Pair T1 T2 w W g k A X base n1 L1 n2 L2) {n1' : Int} {L1' : List L4.Fd} (h : Step T1 W g A base n1' L1' W') : ∃ A', Pair T1 T2 w W' g k A' X base n1' L1' n2 L2 := by
  obtain ⟨A', c', s1, s2, s3⟩ := h
  obtain ⟨c, hs⟩ := p.two
  have hsz := p.old.size
  refine ⟨A', acc_but p.old s2 p.g0 p.a0, p.g0, p.k0, fun j e => ?_, p.x0, ⟨c', s1⟩, ⟨c, hs.but s2 (fun e => p.far.gk e.symm) p.far.ak p.far.xg (fun j e1 e2 => p.far.ax j e2 e1)⟩, far_new p.far hs.lt hs.blkLt s3⟩
  rcases s3 j e with q | q
  · exact p.a0 j q
  · omega
/-- a step of the second -/
theorem Pair.step2 (p : Pair T1 T2 w W g k A X base n1 L1 n2 L2) {n2' : Int} {L2' : List L4.Fd} (h : Step T2 W k X base n2' L2' W') : ∃ X', Pair T1 T2 w W' g k A X' base n1 L1 n2' L2' :=
  (p.swap.step h).imp fun _ q => q.swap
/-- a step of a third one, that is far from both -/
theorem Pair.third (p : Pair T1 T2 w W g k A X base n1 L1 n2 L2) {g3 : Nat} {A3 : Option Addr} (b : But g3 (blk A3) W W') (h3 : w.heap.size ≤ g3) (h3' : ∀ j, blk A3 = some j → w.heap.size ≤ j) (f1 : Far g3 A3 g A) (f2 : Far g3 A3 k X) : Pair T1 T2 w W' g k A X base n1 L1 n2 L2 where
  old := acc_but p.old b h3 h3'
  g0 := p.g0
  k0 := p.k0
  a0 := p.a0
  x0 := p.x0
  one := p.one.imp fun _ h => h.but b (fun e => f1.gk e.symm) f1.ak f1.xg (fun j e1 e2 => f1.ax j e2 e1)
  two := p.two.imp fun _ h => h.but b (fun e => f2.gk e.symm) f2.ak f2.xg (fun j e1 e2 => f2.ax j e2 e1)
  far := p.far
/-- a segment that was made behind all that there is -/
theorem far_fresh {T : TypeId} {g3 cap3 : Nat} {A3 : Option Addr} {b3 n3 : Int} {L3 : List L4.Fd} (hg : g < W.heap.size) (hA : ∀ j, blk A = some j → j < W.heap.size) (h : Fresh T W g3 A3 cap3 b3 n3 L3 W') : Far g A g3 A3 where
  gk := by have := h.2.1; omega
  ak := fun e => by have := hA _ e; have := h.2.1; omega
  xg := fun e => by have := h.2.2 _ e; omega
  ax := fun j e1 e2 => by have := hA j e1; have := h.2.2 j e2; omega
/-- the first is a copy of what it was; the one that it was stays, far from both -/
theorem Pair.copied (p : Pair T1 T2 w W g k A X base n1 L1 n2 L2) {g3 cap3 : Nat} {A3 : Option Addr} (h : Fresh T1 W g3 A3 cap3 base n1 L1 W') (b : Below W.heap.size W W') : Pair T1 T2 w W' g3 k A3 X base n1 L1 n2 L2 ∧ (∃ c, Seg T1 W' g A c base n1 L1) ∧ Far g A g3 A3 ∧ Far g A k X := by
  obtain ⟨c, hs⟩ := p.one
  obtain ⟨c2, hs2⟩ := p.two
  have hsz := p.old.size
  exact ⟨⟨acc p.old b, by have := h.2.1; omega, p.k0, fun j e => by have := h.2.2 j e; omega, p.x0, ⟨cap3, h.1⟩, ⟨c2, hs2.below b⟩, (far_fresh hs2.lt hs2.blkLt h).swap⟩, ⟨c, hs.below b⟩, far_fresh hs.lt hs.blkLt h, p.far⟩
end
end Go.Proofs.Ytpagoeoilkbmjaa.L5
