/-
  Two segments side by side, each in blocks of its own: what is done to the one leaves the other.
-/
import Derived.Test.YtflcggpeflagiaaMSegSame
import Derived.Test.YtflcggpeflagiaaSegCopy
import Derived.Test.YtflcggpeflagiaaMSegMine
namespace Go.Proofs.Ytflcggpeflagiaa.L5
open Go.RowKit
open L3 L4

/-- the blocks of one segment, and those of another -/
structure Far (g : Nat) (A : Option Addr) (k : Nat) (X : Option Addr) : Prop where
  gk : g ≠ k
  ak : blk A ≠ some k
  xg : blk X ≠ some g
  ax : ∀ j, blk A = some j → blk X ≠ some j
theorem Far.swap {g k : Nat} {A X : Option Addr} (f : Far g A k X) : Far k X g A :=
  ⟨fun e => f.gk e.symm, f.xg, f.ak, fun j h1 h2 => f.ax j h2 h1⟩
/-- two segments that were made since w -/
structure Pair (T1 T2 : TypeId) (w W : World) (g k : Nat) (A X : Option Addr) (base n1 : Int) (L1 : List L4.Fd) (n2 : Int) (L2 : List L4.Fd) : Prop where
  old : Below w.heap.size w W
  g0 : w.heap.size ≤ g
  k0 : w.heap.size ≤ k
  a0 : ∀ j, blk A = some j → w.heap.size ≤ j
  x0 : ∀ j, blk X = some j → w.heap.size ≤ j
  one : ∃ c, Seg T1 W g A c base n1 L1
  two : ∃ c, Seg T2 W k X c base n2 L2
  far : Far g A k X
section
variable {T1 T2 : TypeId} {w W W' : World} {g k : Nat} {A X : Option Addr} {base n1 n2 : Int} {L1 L2 : List L4.Fd}
theorem acc_but {h : Option Nat} (o : Below w.heap.size w W) (b : But g h W W') (h1 : w.heap.size ≤ g) (h2 : ∀ j, h = some j → w.heap.size ≤ j) : Below w.heap.size w W' :=
  o.trans (b.below o.size h1 h2)
theorem Pair.swap (p : Pair T1 T2 w W g k A X base n1 L1 n2 L2) : Pair T2 T1 w W k g X A base n2 L2 n1 L1 :=
  ⟨p.old, p.k0, p.g0, p.x0, p.a0, p.two, p.one, p.far.swap⟩
theorem Pair.below (p : Pair T1 T2 w W g k A X base n1 L1 n2 L2) (b : Below W.heap.size W W') : Pair T1 T2 w W' g k A X base n1 L1 n2 L2 :=
  ⟨acc p.old b, p.g0, p.k0, p.a0, p.x0, p.one.imp fun _ h => h.below b, p.two.imp fun _ h => h.below b, p.far⟩
theorem far_new {A' : Option Addr} (f : Far g A k X) (hk : k < W.heap.size) (hx : ∀ j, blk X = some j → j < W.heap.size) (h : ∀ j, blk A' = some j → blk A = some j ∨ W.heap.size ≤ j) : Far g A' k X where
  gk := f.gk
  ak := fun e => by
    rcases h k e with q | q
    · exact f.ak q
    · omega
  xg := f.xg
  ax := fun j e1 e2 => by
    rcases h j e1 with q | q
    · exact f.ax j q e2
    · have := hx j e2; omega
/-- a step of the first -/
theorem Pair.step (p : Pair T1 T2 w W g k A X base n1 L1 n2 L2) {n1' : Int} {L1' : List L4.Fd} (h : Step T1 W g A base n1' L1' W') : ∃ A', Pair T1 T2 w W' g k A' X base n1' L1' n2 L2 := by
  obtain ⟨A', c', s1, s2, s3⟩ := h
  obtain ⟨c, hs⟩ := p.two
  have hsz := p.old.size
  refine ⟨A', acc_but p.old s2 p.g0 p.a0, p.g0, p.k0, fun j e => ?_, p.x0, ⟨c', s1⟩, ⟨c, hs.but s2 (fun e => p.far.gk e.symm) p.far.ak p.far.xg (fun j e1 e2 => p.far.ax j e2 e1)⟩, far_new p.far hs.lt hs.blkLt s3⟩
  rcases s3 j e with q | q
  · exact p.a0 j q
  · omega
/-- a step of the second -/
theorem Pair.step2 (p : Pair T1 T2 w W g k A X base n1 L1 n2 L2) {n2' : Int} {L2' : List L4.Fd} (h : Step T2 W k X base n2' L2' W') : ∃ X', Pair T1 T2 w W' g k A X' base n1 L1 n2' L2' :=
  (p.swap.step h).imp fun _ q => q.swap
/-- a step of a third one, that is far from both -/
theorem Pair.third (p : Pair T1 T2 w W g k A X base n1 L1 n2 L2) {g3 : Nat} {A3 : Option Addr} (b : But g3 (blk A3) W W') (h3 : w.heap.size ≤ g3) (h3' : ∀ j, blk A3 = some j → w.heap.size ≤ j) (f1 : Far g3 A3 g A) (f2 : Far g3 A3 k X) : Pair T1 T2 w W' g k A X base n1 L1 n2 L2 where
  old := acc_but p.old b h3 h3'
  g0 := p.g0
  k0 := p.k0
  a0 := p.a0
  x0 := p.x0
  one := p.one.imp fun _ h => h.but b (fun e => f1.gk e.symm) f1.ak f1.xg (fun j e1 e2 => f1.ax j e2 e1)
  two := p.two.imp fun _ h => h.but b (fun e => f2.gk e.symm) f2.ak f2.xg (fun j e1 e2 => f2.ax j e2 e1)
  far := p.far
/-- a segment that was made behind all that there is -/
theorem far_fresh {T : TypeId} {g3 cap3 : Nat} {A3 : Option Addr} {b3 n3 : Int} {L3 : List L4.Fd} (hg : g < W.heap.size) (hA : ∀ j, blk A = some j → j < W.heap.size) (h : Fresh T W g3 A3 cap3 b3 n3 L3 W') : Far g A g3 A3 where
  gk := by have := h.2.1; omega
  ak := fun e => by have := hA _ e; have := h.2.1; omega
  xg := fun e => by have := h.2.2 _ e; omega
  ax := fun j e1 e2 => by have := hA j e1; have := h.2.2 j e2; omega
/-- the first is a copy of what it was; the one that it was stays, far from both -/
theorem Pair.copied (p : Pair T1 T2 w W g k A X base n1 L1 n2 L2) {g3 cap3 : Nat} {A3 : Option Addr} (h : Fresh T1 W g3 A3 cap3 base n1 L1 W') (b : Below W.heap.size W W') : Pair T1 T2 w W' g3 k A3 X base n1 L1 n2 L2 ∧ (∃ c, Seg T1 W' g A c base n1 L1) ∧ Far g A g3 A3 ∧ Far g A k X := by
  obtain ⟨c, hs⟩ := p.one
  obtain ⟨c2, hs2⟩ := p.two
  have hsz := p.old.size
  exact ⟨⟨acc p.old b, by have := h.2.1; omega, p.k0, fun j e => by have := h.2.2 j e; omega, p.x0, ⟨cap3, h.1⟩, ⟨c2, hs2.below b⟩, (far_fresh hs2.lt hs2.blkLt h).swap⟩, ⟨c, hs.below b⟩, far_fresh hs.lt hs.blkLt h, p.far⟩
end
end Go.Proofs.Ytflcggpeflagiaa.L5
/-
  An argument that is a script of calls on a segment.
-/
namespace Go.Proofs.Ytflcggpeflagiaa.L5
open Go.ChangeShapes Go.WideShapes Go.RowKit Go.Deep
open L3 L4

/-- a script that came in, and reads so -/
def OpsO (w : World) (B : Nat) (A : Option Addr) (l : List Call) : Prop :=
  0 < l.length → ∃ g o, A = some ⟨g, o, none⟩ ∧ g < B ∧ ∀ i r, l[i]? = some r → w.cell? ⟨g, o + i * 5, none⟩ = some (.int .i64 r.kind) ∧ w.cell? ⟨g, o + i * 5 + 1, none⟩ = some (.int .i64 r.from_) ∧ w.cell? ⟨g, o + i * 5 + 2, none⟩ = some (.int .i64 r.n) ∧ w.cell? ⟨g, o + i * 5 + 3, none⟩ = some (.slice r.A r.l.length r.c) ∧ w.cell? ⟨g, o + i * 5 + 4, none⟩ = some (.slice r.X r.k.length r.d)
/-- what a call of a script holds -/
def IsCall (w : World) (r : Call) : Prop := (IsRecs w r.A r.l ∧ r.l.length ≤ r.c) ∧ (IsNums w r.X r.k ∧ r.k.length ≤ r.d) ∧ (Lit.int .i64 r.kind).wf = true ∧ (Lit.int .i64 r.from_).wf = true ∧ (Lit.int .i64 r.n).wf = true
def IsOps (w : World) (A : Option Addr) (l : List Call) : Prop := Hid (OpsO w w.heap.size A l) ∧ Hid (∀ r ∈ l, IsCall w r) ∧ l.length ≤ maxLen
section
variable {H : Type} {enc : TypeId × Value → H} {w : World} {base : Nat} {spare : Nat → Bool} {held : Bool}
theorem recs_cap {n : Nat} {cs : List Value} {x : DataW H × List MemPlace} (h : DataW.trod enc Try.prog w base spare held n 30 cs = some x) :
    ∃ (A : Option Addr) (l : List R) (cap : Nat), cs = [.slice A l.length cap] ∧ IsRecs w A l ∧ l.length ≤ cap := by
  obtain ⟨A, l, cap, e, hI⟩ := cells_recs h
  refine ⟨A, l, cap, e, hI, ?_⟩
  rcases open_slice Try.underlying30 h with ⟨rfl, _⟩ | ⟨a, len, cap', m, n', D, Pl, rfl, _, hl, hm, hmm, _, hi⟩
  · injection e with e1
    injection e1 with q1 q2 q3
    omega
  · injection e with e1
    injection e1 with q1 q2 q3
    omega
end
end Go.Proofs.Ytflcggpeflagiaa.L5
/-
  Contracts: the calls on two segments side by side.
-/
namespace Go.Proofs.Ytflcggpeflagiaa.L5
open Go.RowKit
open L3 L4

/-- the program's and the document's, since w -/
abbrev Both (w W : World) (g k : Nat) (A X : Option Addr) (base n1 : Int) (L1 : List L4.Fd) (n2 : Int) (L2 : List L4.Fd) : Prop :=
  Pair 93 109 w W g k A X base n1 L1 n2 L2
section
variable {w W W' : World} {g k : Nat} {A X : Option Addr} {base n1 n2 : Int} {L1 L2 : List L4.Fd}
theorem both_append_no (p : Hid (Both w W g k A X base n1 L1 n2 L2)) (Y : Option Addr) (rs : List R) (n yc B : Nat) (x : Int) (hl : L1.length ≤ 64) (h0 : 0 ≤ n1) (h1 : n1 ≤ 1099511627776) (hR : Hid (Reads W B Y rs)) (hY : Hid (Apart g A Y)) (hB : B ≤ W.heap.size) (hn : rs.length = n) (hrl : n ≤ maxLen) (hs : Hid (∀ r ∈ rs, r.key.size ≤ maxLen ∧ r.val.size ≤ maxLen)) (HX : Hid (appE n1 L1.length rs = x)) (hx : x ≠ 0) :
    Calls Try.prog 29 #[.pointer (some ⟨g, 0, none⟩), .slice Y n yc] W fun e W' => e = .returned (.tuple #[.int .i64 0, .int .i64 x]) ∧ Below W.heap.size W W' := by
  subst hn
  obtain ⟨c, hseg⟩ := p.out.one
  refine (append_is Y rs yc B x (Lib.hid hseg) hl h0 h1 hR hY hB hrl hs HX).mono ?_
  rintro e W' (⟨_, he, hb⟩ | ⟨hz, _⟩)
  · exact ⟨he, hb⟩
  · exact absurd hz hx
theorem both_append (p : Hid (Both w W g k A X base n1 L1 n2 L2)) (Y : Option Addr) (rs : List R) (n yc B : Nat) (hl : L1.length ≤ 64) (h0 : 0 ≤ n1) (h1 : n1 ≤ 1099511627776) (hR : Hid (Reads W B Y rs)) (hY : Hid (Apart g A Y)) (hB : B ≤ W.heap.size) (hn : rs.length = n) (hrl : n ≤ maxLen) (hs : Hid (∀ r ∈ rs, r.key.size ≤ maxLen ∧ r.val.size ≤ maxLen)) (HX : Hid (appE n1 L1.length rs = 0)) :
    Calls Try.prog 29 #[.pointer (some ⟨g, 0, none⟩), .slice Y n yc] W fun e W' => e = .returned (.tuple #[.int .i64 n1, .int .i64 0]) ∧ But g (blk A) W W' ∧ ∃ A', Both w W' g k A' X base (n1 + n) (L1 ++ numbered n1 rs) n2 L2 := by
  subst hn
  obtain ⟨c, hseg⟩ := p.out.one
  refine (append_is Y rs yc B 0 (Lib.hid hseg) hl h0 h1 hR hY hB hrl hs HX).mono ?_
  rintro e W' (⟨hz, _⟩ | ⟨_, he, hs⟩)
  · exact absurd rfl hz
  · exact ⟨he, hs.choose_spec.choose_spec.2.1, p.out.step hs⟩
theorem both_keep (p : Hid (Both w W g k A X base n1 L1 n2 L2)) (Y : Option Addr) (s : List Int) (n yc B : Nat) (hl : L1.length ≤ 64) (ho : Hid (∀ f ∈ L1, 0 ≤ f.o ∧ f.o ≤ 1099511627776)) (hR : Hid (ReadsI W B Y s)) (hB : B ≤ W.heap.size) (hn : s.length = n) (hs : n ≤ 1000000) (hwf : Hid (∀ x ∈ s, (Lit.int .i64 x).wf = true)) :
    Calls Try.prog 42 #[.pointer (some ⟨g, 0, none⟩), .slice Y n yc] W fun e W' => e = .returned (.int .i64 ((L1.length - (keepL L1 s).length : Nat) : Int)) ∧ But g (blk A) W W' ∧ ∃ A', Both w W' g k A' X base n1 (keepL L1 s) n2 L2 := by
  subst hn
  obtain ⟨c, hseg⟩ := p.out.one
  refine (keep_is Y s yc B L1.length (Lib.hid hseg) rfl hl ho hR hB hs hwf).mono ?_
  rintro e W' ⟨he, hs⟩
  exact ⟨he, hs.choose_spec.choose_spec.2.1, p.out.step hs⟩
theorem both_read (p : Hid (Both w W g k A X base n1 L1 n2 L2)) (a c : Int) (hl : L1.length ≤ 64) (hr : Hid (riseB base n1 L1 = true)) :
    Calls Try.prog 35 #[.pointer (some ⟨g, 0, none⟩), .int .i64 a, .int .i64 c] W (CloneP W (readL L1 a c)) := by
  obtain ⟨c', hseg⟩ := p.out.one
  exact read_ok a c L1.length _ (Lib.hid hseg) hr rfl hl (Lib.hid rfl)
theorem both_copy (p : Hid (Both w W g k A X base n1 L1 n2 L2)) (hl : L1.length ≤ 64) :
    Calls Try.prog 44 #[.pointer (some ⟨g, 0, none⟩)] W fun e W' => ∃ g3 A3, e = .returned (.pointer (some ⟨g3, 0, none⟩)) ∧ Both w W' g3 k A3 X base n1 L1 n2 L2 ∧ (∃ c, Seg 93 W' g A c base n1 L1) ∧ Far g A g3 A3 ∧ Far g A k X ∧ Below W.heap.size W W' := by
  obtain ⟨c, hseg⟩ := p.out.one
  refine (copy_is L1.length (Lib.hid hseg) rfl hl).mono ?_
  rintro e W' ⟨g3, A3, c3, he, hf, hb⟩
  obtain ⟨q1, q2, q3, q4⟩ := p.out.copied hf hb
  exact ⟨g3, A3, he, q1, q2, q3, q4, hb⟩
end
end Go.Proofs.Ytflcggpeflagiaa.L5
/-
  Two new segments, the program's and the document's.
-/
namespace Go.Proofs.Ytflcggpeflagiaa.L5
open Go.RowKit
open L3 L4

theorem mask40 (x : Int) : 0 ≤ bits .and .i64 x 1099511627775 ∧ bits .and .i64 x 1099511627775 ≤ 1099511627775 := by
  have e : (BitVec.ofInt 64 x &&& BitVec.ofInt 64 1099511627775).toNat ≤ 1099511627775 := by
    rw [BitVec.toNat_and]
    exact Nat.le_trans Nat.and_le_right (by decide)
  show 0 ≤ IntKind.i64.wrap ((BitVec.ofInt 64 x &&& BitVec.ofInt 64 1099511627775).toNat : Int) ∧ IntKind.i64.wrap ((BitVec.ofInt 64 x &&& BitVec.ofInt 64 1099511627775).toNat : Int) ≤ 1099511627775
  rw [IntKind.wrap_i64]
  omega
theorem newE_ok {b : Int} (h0 : 0 ≤ b) (h1 : b ≤ 1099511627775) : newE b = 0 := by
  unfold newE
  rw [if_pos (by simp [numB]; omega)]
theorem good_new {b : Int} (h0 : 0 ≤ b) (h1 : b ≤ 1099511627775) : Good b b [] :=
  ⟨h0, Int.le_refl _, by omega, by simp, rfl, fun f hf => by simp at hf⟩
theorem new_first (b : Int) (W : World) (HX : Hid (newE b = 0)) :
    Calls Try.prog 28 #[.int .i64 b] W fun e W' => ∃ g A c, e = .returned (.tuple #[.pointer (some ⟨g, 0, none⟩), .int .i64 0]) ∧ Fresh 93 W g A c b b [] W' ∧ Below W.heap.size W W' := by
  refine (new_is b 0 W HX).mono ?_
  rintro e W' ⟨h, ⟨hx, _⟩ | ⟨_, g, A, cap, rfl, hf⟩⟩
  · exact absurd rfl hx
  · exact ⟨g, A, cap, rfl, hf, h⟩
end Go.Proofs.Ytflcggpeflagiaa.L5
/-
  What the law of all calls on a segment needs beside the calls.
-/
namespace Go.Proofs.Ytflcggpeflagiaa.L5
open Go.RowKit
open L3 L4

/-- offsets that came in, at most 80 of them -/
structure Arg (w : World) (A : Option Addr) (l : List Int) (S : List Int) (m : Nat) : Prop where
  len : S.length = m
  min : min (l.length : Int) 80 = (m : Int)
  le : m ≤ 80
  leN : m ≤ l.length
  reads : ∀ W', Below w.heap.size w W' → ReadsI W' w.heap.size A S
  wf : ∀ x ∈ S, (Lit.int .i64 x).wf = true
theorem arg_of {w : World} {A : Option Addr} {l : List Int} (h : IsNums w A l) : ∃ S m, Arg w A l S m := by
  obtain ⟨h1, h2, h3⟩ := h
  have hlen : (l.take (Nat.min l.length 80)).length = Nat.min l.length 80 := by rw [List.length_take]; exact Nat.min_eq_left (Nat.min_le_left _ _)
  have e : Nat.min l.length 80 = Min.min l.length 80 := rfl
  refine ⟨l.take (Nat.min l.length 80), Nat.min l.length 80, ⟨hlen, by rw [e]; omega, by rw [e]; omega, by rw [e]; omega, fun W' hb h0 => ?_, fun x hx => h2.out x (List.mem_of_mem_take hx)⟩⟩
  rw [hlen, e] at h0
  obtain ⟨g, o, ea, hg, hc⟩ := h1.out.reads (by omega)
  refine ⟨g, o, ea, hg, fun i x hx => (hb.cell (p := ⟨g, o + i, none⟩) hg).trans (hc i x ?_)⟩
  have hi := (List.getElem?_eq_some_iff.1 hx).1
  rw [hlen] at hi
  rwa [List.getElem?_take_of_lt hi] at hx

section
variable {w W W' : World} {g k g3 : Nat} {A X A3 : Option Addr} {base n1 n2 nx : Int} {L1 L2 L : List L4.Fd}
theorem apart_new {Y : Option Addr} (p : Both w W g k A X base n1 L1 n2 L2) (hY : ∀ j, blk Y = some j → W.heap.size ≤ j) : Apart g A Y ∧ Apart k X Y := by
  obtain ⟨_, hs⟩ := p.one
  obtain ⟨_, hs2⟩ := p.two
  have q1 := hs.lt
  have q2 := hs2.lt
  exact ⟨fun j e => ⟨by have := hY j e; omega, fun q => by have := hY j e; have := hs.blkLt j q.symm; omega⟩, fun j e => ⟨by have := hY j e; omega, fun q => by have := hY j e; have := hs2.blkLt j q.symm; omega⟩⟩
theorem own_blk {T : TypeId} {b n c size : Nat} {Y : Option Addr} {xs : List Value} (h : W.ownsRow b T size (.slice Y n c) n xs) : ∀ j, blk Y = some j → b ≤ j ∧ j < W.heap.size := fun j e => by
  have := h.lt j (by rw [ownBlock_blk]; exact e)
  exact ⟨this.1, this.2⟩
/-- the one that was copied: it lies apart from the copy and from the document's -/
structure Old (w W : World) (g : Nat) (A : Option Addr) (base nx : Int) (L : List L4.Fd) (g3 : Nat) (A3 : Option Addr) (k : Nat) (X : Option Addr) : Prop where
  seg : ∃ c, Seg 93 W g A c base nx L
  f1 : Far g A g3 A3
  f2 : Far g A k X
  h3 : w.heap.size ≤ g
  h4 : ∀ j, blk A = some j → w.heap.size ≤ j
theorem Old.below (o : Old w W g A base nx L g3 A3 k X) (b : Below W.heap.size W W') : Old w W' g A base nx L g3 A3 k X :=
  ⟨o.seg.imp fun _ h => h.below b, o.f1, o.f2, o.h3, o.h4⟩
theorem Old.turned (o : Old w W g A base nx L g3 A3 k X) (p : Both w W g3 k A3 X base n1 L1 n2 L2) {nx' : Int} {L' : List L4.Fd} (h : Step 93 W g A base nx' L' W') : Both w W' g3 k A3 X base n1 L1 n2 L2 ∧ ∃ A', Old w W' g A' base nx' L' g3 A3 k X := by
  obtain ⟨A', c', s1, s2, s3⟩ := h
  obtain ⟨_, hs⟩ := p.one
  obtain ⟨_, hs2⟩ := p.two
  have hsz := p.old.size
  refine ⟨p.third s2 o.h3 o.h4 o.f1 o.f2, A', ⟨c', s1⟩, far_new o.f1 hs.lt hs.blkLt s3, far_new o.f2 hs2.lt hs2.blkLt s3, o.h3, fun j e => ?_⟩
  rcases s3 j e with q | q
  · exact o.h4 j q
  · omega
theorem old_append (p : Hid (Both w W g3 k A3 X base n1 L1 n2 L2)) (o : Hid (Old w W g A base nx L g3 A3 k X)) (G : Hid (Good base nx L)) (Y : Option Addr) (rs : List R) (n yc B : Nat) (hR : Hid (Reads W B Y rs)) (hY : Hid (Apart g A Y)) (hB : B ≤ W.heap.size) (hn : rs.length = n) (hrl : n ≤ maxLen) (hs : Hid (∀ r ∈ rs, r.key.size ≤ maxLen ∧ r.val.size ≤ maxLen)) :
    Calls Try.prog 29 #[.pointer (some ⟨g, 0, none⟩), .slice Y n yc] W fun e W' => ∃ a x A' nx' L', e = .returned (.tuple #[.int .i64 a, .int .i64 x]) ∧ Both w W' g3 k A3 X base n1 L1 n2 L2 ∧ Old w W' g A' base nx' L' g3 A3 k X ∧ Good base nx' L' := by
  subst hn
  obtain ⟨c, hseg⟩ := o.out.seg
  obtain ⟨x, hx⟩ : ∃ x, appE nx L.length rs = x := ⟨_, rfl⟩
  have hg := G.out
  refine (append_is Y rs yc B x (Lib.hid hseg) hg.len (Int.le_trans hg.b0 hg.bn) hg.n1 hR hY hB hrl hs (Lib.hid hx)).mono ?_
  rintro e W' (⟨_, he, hb⟩ | ⟨hz, he, hst⟩)
  · exact ⟨_, _, A, nx, L, he, p.out.below hb, o.out.below hb, hg⟩
  · obtain ⟨q1, A', q2⟩ := o.out.turned p.out hst
    exact ⟨_, _, A', _, _, he, q1, q2, app_good hg (hx.trans hz)⟩
theorem old_keep (p : Hid (Both w W g3 k A3 X base n1 L1 n2 L2)) (o : Hid (Old w W g A base nx L g3 A3 k X)) (G : Hid (Good base nx L)) :
    Calls Try.prog 42 #[.pointer (some ⟨g, 0, none⟩), .slice none 0 0] W fun e W' => ∃ a, e = .returned (.int .i64 a) ∧ Both w W' g3 k A3 X base n1 L1 n2 L2 := by
  obtain ⟨c, hseg⟩ := o.out.seg
  have hg := G.out
  refine (keep_is none [] 0 0 L.length (Lib.hid hseg) rfl hg.len (Lib.hid (fun f hf => ?_)) (Lib.hid (fun h0 => by simp at h0)) (Nat.zero_le _) (by simp) (Lib.hid (fun x hx => by simp at hx))).mono ?_
  · have := rise_mem hg.rise f hf
    have h0 := hg.b0
    have h1 := hg.n1
    omega
  · rintro e W' ⟨he, hst⟩
    exact ⟨_, he, (o.out.turned p.out hst).1⟩
/-- what a copy leaves -/
theorem copied_old (p : Both w W g k A X base n1 L1 n2 L2) (hs : ∃ c, Seg 93 W' g A c base n1 L1) (f1 : Far g A g3 A3) (f2 : Far g A k X) : Old w W' g A base n1 L1 g3 A3 k X :=
  ⟨hs, f1, f2, p.g0, p.a0⟩
end
end Go.Proofs.Ytflcggpeflagiaa.L5
