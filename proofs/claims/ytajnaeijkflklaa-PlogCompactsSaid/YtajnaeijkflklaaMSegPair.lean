/-
  Two segments side by side, each in blocks of its own: what is done to the one leaves the other.
-/
import Derived.Test.YtajnaeijkflklaaMSegSame
import Derived.Test.YtajnaeijkflklaaSegCopy
import Derived.Test.YtajnaeijkflklaaMSegMine
namespace Go.Proofs.Ytajnaeijkflklaa.L5
open Go.RowKit
open L3 L4

/-- the blocks of one segment, and those of another -/
structure Far (g : Nat) (A : Option Addr) (k : Nat) (X : Option Addr) : Prop where
  gk : g ≠ k
  ak : blk A ≠ some k
  xg : blk X ≠ some g
  ax : ∀ j, blk A = some j → blk X ≠ some j
theorem Far.swap {g k : Nat} {A X : Option Addr} (f : Far g A k X) : Far k X g A :=
  ⟨fun e => f.gk e.symm, f.xg, f.ak, fun j h1 h2 => f.ax j h2 h1⟩
/-- two segments that were made since w -/
structure Pair (T1 T2 : TypeId) (w W : World) (g k : Nat) (A X : Option Addr) (base n1 : Int) (L1 : List L4.Fd) (n2 : Int) (L2 : List L4.Fd) : Prop where
  old : Below w.heap.size w W
  g0 : w.heap.size ≤ g
  k0 : w.heap.size ≤ k
  a0 : ∀ j, blk A = some j → w.heap.size ≤ j
  x0 : ∀ j, blk X = some j → w.heap.size ≤ j
  one : ∃ c, Seg T1 W g A c base n1 L1
  two : ∃ c, Seg T2 W k X c base n2 L2
  far : Far g A k X
section
variable {T1 T2 : TypeId} {w W W' : World} {g k : Nat} {A X : Option Addr} {base n1 n2 : Int} {L1 L2 : List L4.Fd}
theorem acc_but {h : Option Nat} (o : Below w.heap.size w W) (b : But g h W W') (h1 : w.heap.size ≤ g) (h2 : ∀ j, h = some j → w.heap.size ≤ j) : Below w.heap.size w W' :=
  o.trans (b.below o.size h1 h2)
theorem Pair.swap (p : Pair T1 T2 w W g k A X base n1 L1 n2 L2) : Pair T2 T1 w W k g X A base n2 L2 n1 L1 :=
  ⟨p.old, p.k0, p.g0, p.x0, p.a0, p.two, p.one, p.far.swap⟩
theorem Pair.below (p : Pair T1 T2 w W g k A X base n1 L1 n2 L2) (b : Below W.heap.size W W') : Pair T1 T2 w W' g k A X base n1 L1 n2 L2 :=
  ⟨acc p.old b, p.g0, p.k0, p.a0, p.x0, p.one.imp fun _ h => h.below b, p.two.imp fun _ h => h.below b, p.far⟩
theorem far_new {A' : Option Addr} (f : Far g A k X) (hk : k < W.heap.size) (hx : ∀ j, blk X = some j → j < W.heap.size) (h : ∀ j, blk A' = some j → blk A = some j ∨ W.heap.size ≤ j) : Far g A' k X where
  gk := f.gk
  ak := fun e => by
    rcases h k e with q | q
    · exact f.ak q
    · omega
  xg := f.xg
  ax := fun j e1 e2 => by
    rcases h j e1 with q | q
    · exact f.ax j q e2
    · have := hx j e2; omega
/-- a step of the first -/
theorem Pair.step (p : Pair T1 T2 w W g k A X base n1 L1 n2 L2) {n1' : Int} {L1' : List L4.Fd} (h : Step T1 W g A base n1' L1' W') : ∃ A', Pair T1 T2 w W' g k A' X base n1' L1' n2 L2 := by
  obtain ⟨A', c', s1, s2, s3⟩ := h
  obtain ⟨c, hs⟩ := p.two
  have hsz := p.old.size
  refine ⟨A', acc_but p.old s2 p.g0 p.a0, p.g0, p.k0, fun j e => ?_, p.x0, ⟨c', s1⟩, ⟨c, hs.but s2 (fun e => p.far.gk e.symm) p.far.ak p.far.xg (fun j e1 e2 => p.far.ax j e2 e1)⟩, far_new p.far hs.lt hs.blkLt s3⟩
  rcases s3 j e with q | q
  · exact p.a0 j q
  · omega
/-- a step of the second -/
theorem Pair.step2 (p : Pair T1 T2 w W g k A X base n1 L1 n2 L2) {n2' : Int} {L2' : List L4.Fd} (h : Step T2 W k X base n2' L2' W') : ∃ X', Pair T1 T2 w W' g k A X' base n1 L1 n2' L2' :=
  (p.swap.step h).imp fun _ q => q.swap
/-- a step of a third one, that is far from both -/
theorem Pair.third (p : Pair T1 T2 w W g k A X base n1 L1 n2 L2) {g3 : Nat} {A3 : Option Addr} (b : But g3 (blk A3) W W') (h3 : w.heap.size ≤ g3) (h3' : ∀ j, blk A3 = some j → w.heap.size ≤ j) (f1 : Far g3 A3 g A) (f2 : Far g3 A3 k X) : Pair T1 T2 w W' g k A X base n1 L1 n2 L2 where
  old := acc_but p.old b h3 h3'
  g0 := p.g0
  k0 := p.k0
  a0 := p.a0
  x0 := p.x0
  one := p.one.imp fun _ h => h.but b (fun e => f1.gk e.symm) f1.ak f1.xg (fun j e1 e2 => f1.ax j e2 e1)
  two := p.two.imp fun _ h => h.but b (fun e => f2.gk e.symm) f2.ak f2.xg (fun j e1 e2 => f2.ax j e2 e1)
  far := p.far
/-- a segment that was made behind all that there is -/
theorem far_fresh {T : TypeId} {g3 cap3 : Nat} {A3 : Option Addr} {b3 n3 : Int} {L3 : List L4.Fd} (hg : g < W.heap.size) (hA : ∀ j, blk A = some j → j < W.heap.size) (h : Fresh T W g3 A3 cap3 b3 n3 L3 W') : Far g A g3 A3 where
  gk := by have := h.2.1; omega
  ak := fun e => by have := hA _ e; have := h.2.1; omega
  xg := fun e => by have := h.2.2 _ e; omega
  ax := fun j e1 e2 => by have := hA j e1; have := h.2.2 j e2; omega
/-- the first is a copy of what it was; the one that it was stays, far from both -/
theorem Pair.copied (p : Pair T1 T2 w W g k A X base n1 L1 n2 L2) {g3 cap3 : Nat} {A3 : Option Addr} (h : Fresh T1 W g3 A3 cap3 base n1 L1 W') (b : Below W.heap.size W W') : Pair T1 T2 w W' g3 k A3 X base n1 L1 n2 L2 ∧ (∃ c, Seg T1 W' g A c base n1 L1) ∧ Far g A g3 A3 ∧ Far g A k X := by
  obtain ⟨c, hs⟩ := p.one
  obtain ⟨c2, hs2⟩ := p.two
  have hsz := p.old.size
  exact ⟨⟨acc p.old b, by have := h.2.1; omega, p.k0, fun j e => by have := h.2.2 j e; omega, p.x0, ⟨cap3, h.1⟩, ⟨c2, hs2.below b⟩, (far_fresh hs2.lt hs2.blkLt h).swap⟩, ⟨c, hs.below b⟩, far_fresh hs.lt hs.blkLt h, p.far⟩
end
end Go.Proofs.Ytajnaeijkflklaa.L5
/-
  An argument that is a script of calls on a segment.
-/
namespace Go.Proofs.Ytajnaeijkflklaa.L5
open Go.ChangeShapes Go.WideShapes Go.RowKit Go.Deep
open L3 L4

/-- a script that came in, and reads so -/
def OpsO (w : World) (B : Nat) (A : Option Addr) (l : List Call) : Prop :=
  0 < l.length → ∃ g o, A = some ⟨g, o, none⟩ ∧ g < B ∧ ∀ i r, l[i]? = some r → w.cell? ⟨g, o + i * 5, none⟩ = some (.int .i64 r.kind) ∧ w.cell? ⟨g, o + i * 5 + 1, none⟩ = some (.int .i64 r.from_) ∧ w.cell? ⟨g, o + i * 5 + 2, none⟩ = some (.int .i64 r.n) ∧ w.cell? ⟨g, o + i * 5 + 3, none⟩ = some (.slice r.A r.l.length r.c) ∧ w.cell? ⟨g, o + i * 5 + 4, none⟩ = some (.slice r.X r.k.length r.d)
/-- what a call of a script holds -/
def IsCall (w : World) (r : Call) : Prop := (IsRecs w r.A r.l ∧ r.l.length ≤ r.c) ∧ (IsNums w r.X r.k ∧ r.k.length ≤ r.d) ∧ (Lit.int .i64 r.kind).wf = true ∧ (Lit.int .i64 r.from_).wf = true ∧ (Lit.int .i64 r.n).wf = true
def IsOps (w : World) (A : Option Addr) (l : List Call) : Prop := Hid (OpsO w w.heap.size A l) ∧ Hid (∀ r ∈ l, IsCall w r) ∧ l.length ≤ maxLen
section
variable {H : Type} {enc : TypeId × Value → H} {w : World} {base : Nat} {spare : Nat → Bool} {held : Bool}
theorem recs_cap {n : Nat} {cs : List Value} {x : DataW H × List MemPlace} (h : DataW.trod enc Try.prog w base spare held n 29 cs = some x) :
    ∃ (A : Option Addr) (l : List R) (cap : Nat), cs = [.slice A l.length cap] ∧ IsRecs w A l ∧ l.length ≤ cap := by
  obtain ⟨A, l, cap, e, hI⟩ := cells_recs h
  refine ⟨A, l, cap, e, hI, ?_⟩
  rcases open_slice Try.underlying29 h with ⟨rfl, _⟩ | ⟨a, len, cap', m, n', D, Pl, rfl, _, hl, hm, hmm, _, hi⟩
  · injection e with e1
    injection e1 with q1 q2 q3
    omega
  · injection e with e1
    injection e1 with q1 q2 q3
    omega
end
end Go.Proofs.Ytajnaeijkflklaa.L5
/-
  Contracts: the calls on two segments side by side.
-/
namespace Go.Proofs.Ytajnaeijkflklaa.L5
open Go.RowKit
open L3 L4

section
variable {w W W' : World} {g k : Nat} {A X : Option Addr} {base n1 n2 : Int} {L1 L2 : List L4.Fd}
end
end Go.Proofs.Ytajnaeijkflklaa.L5
/-
  Two new segments, the program's and the document's.
-/
namespace Go.Proofs.Ytajnaeijkflklaa.L5
open Go.RowKit
open L3 L4

theorem mask40 (x : Int) : 0 ≤ bits .and .i64 x 1099511627775 ∧ bits .and .i64 x 1099511627775 ≤ 1099511627775 := by
  have e : (BitVec.ofInt 64 x &&& BitVec.ofInt 64 1099511627775).toNat ≤ 1099511627775 := by
    rw [BitVec.toNat_and]
    exact Nat.le_trans Nat.and_le_right (by decide)
  show 0 ≤ IntKind.i64.wrap ((BitVec.ofInt 64 x &&& BitVec.ofInt 64 1099511627775).toNat : Int) ∧ IntKind.i64.wrap ((BitVec.ofInt 64 x &&& BitVec.ofInt 64 1099511627775).toNat : Int) ≤ 1099511627775
  rw [IntKind.wrap_i64]
  omega
theorem newE_ok {b : Int} (h0 : 0 ≤ b) (h1 : b ≤ 1099511627775) : newE b = 0 := by
  unfold newE
  rw [if_pos (by simp [numB]; omega)]
theorem good_new {b : Int} (h0 : 0 ≤ b) (h1 : b ≤ 1099511627775) : Good b b [] :=
  ⟨h0, Int.le_refl _, by omega, by simp, rfl, fun f hf => by simp at hf⟩
theorem new_first (b : Int) (W : World) (HX : Hid (newE b = 0)) :
    Calls Try.prog 17 #[.int .i64 b] W fun e W' => ∃ g A c, e = .returned (.tuple #[.pointer (some ⟨g, 0, none⟩), .int .i64 0]) ∧ Fresh 75 W g A c b b [] W' ∧ Below W.heap.size W W' := by
  refine (new_is b 0 W HX).mono ?_
  rintro e W' ⟨h, ⟨hx, _⟩ | ⟨_, g, A, cap, rfl, hf⟩⟩
  · exact absurd rfl hx
  · exact ⟨g, A, cap, rfl, hf, h⟩
end Go.Proofs.Ytajnaeijkflklaa.L5
/-
  What the law of all calls on a segment needs beside the calls.
-/
namespace Go.Proofs.Ytajnaeijkflklaa.L5
open Go.RowKit
open L3 L4

/-- offsets that came in, at most 80 of them -/
structure Arg (w : World) (A : Option Addr) (l : List Int) (S : List Int) (m : Nat) : Prop where
  len : S.length = m
  min : min (l.length : Int) 80 = (m : Int)
  le : m ≤ 80
  leN : m ≤ l.length
  reads : ∀ W', Below w.heap.size w W' → ReadsI W' w.heap.size A S
  wf : ∀ x ∈ S, (Lit.int .i64 x).wf = true
theorem arg_of {w : World} {A : Option Addr} {l : List Int} (h : IsNums w A l) : ∃ S m, Arg w A l S m := by
  obtain ⟨h1, h2, h3⟩ := h
  have hlen : (l.take (Nat.min l.length 80)).length = Nat.min l.length 80 := by rw [List.length_take]; exact Nat.min_eq_left (Nat.min_le_left _ _)
  have e : Nat.min l.length 80 = Min.min l.length 80 := rfl
  refine ⟨l.take (Nat.min l.length 80), Nat.min l.length 80, ⟨hlen, by rw [e]; omega, by rw [e]; omega, by rw [e]; omega, fun W' hb h0 => ?_, fun x hx => h2.out x (List.mem_of_mem_take hx)⟩⟩
  rw [hlen, e] at h0
  obtain ⟨g, o, ea, hg, hc⟩ := h1.out.reads (by omega)
  refine ⟨g, o, ea, hg, fun i x hx => (hb.cell (p := ⟨g, o + i, none⟩) hg).trans (hc i x ?_)⟩
  have hi := (List.getElem?_eq_some_iff.1 hx).1
  rw [hlen] at hi
  rwa [List.getElem?_take_of_lt hi] at hx

section
variable {w W W' : World} {g k g3 : Nat} {A X A3 : Option Addr} {base n1 n2 nx : Int} {L1 L2 L : List L4.Fd}
theorem own_blk {T : TypeId} {b n c size : Nat} {Y : Option Addr} {xs : List Value} (h : W.ownsRow b T size (.slice Y n c) n xs) : ∀ j, blk Y = some j → b ≤ j ∧ j < W.heap.size := fun j e => by
  have := h.lt j (by rw [ownBlock_blk]; exact e)
  exact ⟨this.1, this.2⟩
/-- the one that was copied: it lies apart from the copy and from the document's -/
structure Old (w W : World) (g : Nat) (A : Option Addr) (base nx : Int) (L : List L4.Fd) (g3 : Nat) (A3 : Option Addr) (k : Nat) (X : Option Addr) : Prop where
  seg : ∃ c, Seg 75 W g A c base nx L
  f1 : Far g A g3 A3
  f2 : Far g A k X
  h3 : w.heap.size ≤ g
  h4 : ∀ j, blk A = some j → w.heap.size ≤ j
theorem Old.below (o : Old w W g A base nx L g3 A3 k X) (b : Below W.heap.size W W') : Old w W' g A base nx L g3 A3 k X :=
  ⟨o.seg.imp fun _ h => h.below b, o.f1, o.f2, o.h3, o.h4⟩
end
end Go.Proofs.Ytajnaeijkflklaa.L5
