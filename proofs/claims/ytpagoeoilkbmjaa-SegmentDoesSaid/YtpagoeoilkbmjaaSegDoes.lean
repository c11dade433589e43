/-
  What the law of all calls on a segment needs beside the calls.
-/
import Derived.Test.YtpagoeoilkbmjaaSegStart
namespace Go.Proofs.Ytpagoeoilkbmjaa.L5
open Go.RowKit
open L3 L4

/-- offsets that came in, at most 80 of them -/
structure Arg (w : World) (A : Option Addr) (l : List Int) (S : List Int) (m : Nat) : Prop where
  len : S.length = m
  min : min (l.length : Int) 80 = (m : Int)
  le : m ≤ 80
  leN : m ≤ l.length
  reads : ∀ W', Below w.heap.size w W' → ReadsI W' w.heap.size A S
  wf : ∀ x ∈ S, (Lit.int .i64 x).wf = true
theorem arg_of {w : World} {A : Option Addr} {l : List Int} (h : IsNums w A l) : ∃ S m, Arg w A l S m := by
  obtain ⟨h1, h2, h3⟩ := h
  have hlen : (l.take (Nat.min l.length 80)).length = Nat.min l.length 80 := by rw [List.length_take]; exact Nat.min_eq_left (Nat.min_le_left _ _)
  have e : Nat.min l.length 80 = Min.min l.length 80 := rfl
  refine ⟨l.take (Nat.min l.length 80), Nat.min l.length 80, ⟨hlen, by rw [e]; omega, by rw [e]; omega, by rw [e]; omega, fun W' hb h0 => ?_, fun x hx => h2.out x (List.mem_of_mem_take hx)⟩⟩
  rw [hlen, e] at h0
  obtain ⟨g, o, ea, hg, hc⟩ := h1.out.reads (by omega)
  refine ⟨g, o, ea, hg, fun i x hx => (hb.cell (p := ⟨g, o + i, none⟩) hg).trans (hc i x ?_)⟩
  have hi := (List.getElem?_eq_some_iff.1 hx).1
  rw [hlen] at hi
  rwa [List.getElem?_take_of_lt hi] at hx

section
variable {w W W' : World} {g k g3 : Nat} {A X A3 : Option Addr} {base n1 n2 nx : Int} {L1 L2 L : List L4.Fd}
theorem apart_new {Y : Option Addr} (p : Both w W g k A X base n1 L1 n2 L2) (hY : ∀ j, blk Y = some j → W.heap.size ≤ j) : Apart g A Y ∧ Apart k X Y := by
  obtain ⟨_, hs⟩ := p.one
  obtain ⟨_, hs2⟩ := p.two
  have q1 := hs.lt
  have q2 := hs2.lt
  exact ⟨fun j e => ⟨by have := hY j e; omega, fun q => by have := hY j e; have := hs.blkLt j q.symm; omega⟩, fun j e => ⟨by have := hY j e; omega, fun q => by have := hY j e; have := hs2.blkLt j q.symm; omega⟩⟩
theorem own_blk {T : TypeId} {b n c size : Nat} {Y : Option Addr} {xs : List Value} (h : W.ownsRow b T size (.slice Y n c) n xs) : ∀ j, blk Y = some j → b ≤ j ∧ j < W.heap.size := fun j e => by
  have := h.lt j (by rw [ownBlock_blk]; exact e)
  exact ⟨this.1, this.2⟩
/-- the one that was copied: it lies apart from the copy and from the document's -/
structure Old (w W : World) (g : Nat) (A : Option Addr) (base nx : Int) (L : List L4.Fd) (g3 : Nat) (A3 : Option Addr) (k : Nat) (X : Option Addr) : Prop where
  seg : ∃ c, Seg 87 W g A c base nx L
  f1 : Far g A g3 A3
  f2 : Far g A k X
  h3 : w.heap.size ≤ g
  h4 : ∀ j, blk A = some j → w.heap.size ≤ j
theorem Old.below (o : Old w W g A base nx L g3 A3 k X) (b : Below W.heap.size W W') : Old w W' g A base nx L g3 A3 k X :=
  ⟨o.seg.imp fun _ h => h.below b, o.f1, o.f2, o.h3, o.h4⟩
theorem Old.turned (o : Old w W g A base nx L g3 A3 k X) (p : Both w W g3 k A3 X base n1 L1 n2 L2) {nx' : Int} {L' : List L4.Fd} (h : Step 87 W g A base nx' L' W') : Both w W' g3 k A3 X base n1 L1 n2 L2 ∧ ∃ A', Old w W' g A' base nx' L' g3 A3 k X := by
  obtain ⟨A', c', s1, s2, s3⟩ := h
  obtain ⟨_, hs⟩ := p.one
  obtain ⟨_, hs2⟩ := p.two
  have hsz := p.old.size
  refine ⟨p.third s2 o.h3 o.h4 o.f1 o.f2, A', ⟨c', s1⟩, far_new o.f1 hs.lt hs.blkLt s3, far_new o.f2 hs2.lt hs2.blkLt s3, o.h3, fun j e => ?_⟩
  rcases s3 j e with q | q
  · exact o.h4 j q
  · omega
theorem old_append (p : Hid (Both w W g3 k A3 X base n1 L1 n2 L2)) (o : Hid (Old w W g A base nx L g3 A3 k X)) (G : Hid (Good base nx L)) (Y : Option Addr) (rs : List R) (n yc B : Nat) (hR : Hid (Reads W B Y rs)) (hY : Hid (Apart g A Y)) (hB : B ≤ W.heap.size) (hn : rs.length = n) (hrl : n ≤ maxLen) (hs : Hid (∀ r ∈ rs, r.key.size ≤ maxLen ∧ r.val.size ≤ maxLen)) :
    Calls Try.prog 14 #[.pointer (some ⟨g, 0, none⟩), .slice Y n yc] W fun e W' => ∃ a x A' nx' L', e = .returned (.tuple #[.int .i64 a, .int .i64 x]) ∧ Both w W' g3 k A3 X base n1 L1 n2 L2 ∧ Old w W' g A' base nx' L' g3 A3 k X ∧ Good base nx' L' := by
  subst hn
  obtain ⟨c, hseg⟩ := o.out.seg
  obtain ⟨x, hx⟩ : ∃ x, appE nx L.length rs = x := ⟨_, rfl⟩
  have hg := G.out
  refine (append_is Y rs yc B x (Lib.hid hseg) hg.len (Int.le_trans hg.b0 hg.bn) hg.n1 hR hY hB hrl hs (Lib.hid hx)).mono ?_
  rintro e W' (⟨_, he, hb⟩ | ⟨hz, he, hst⟩)
  · exact ⟨_, _, A, nx, L, he, p.out.below hb, o.out.below hb, hg⟩
  · obtain ⟨q1, A', q2⟩ := o.out.turned p.out hst
    exact ⟨_, _, A', _, _, he, q1, q2, app_good hg (hx.trans hz)⟩
theorem old_keep (p : Hid (Both w W g3 k A3 X base n1 L1 n2 L2)) (o : Hid (Old w W g A base nx L g3 A3 k X)) (G : Hid (Good base nx L)) :
    Calls Try.prog 19 #[.pointer (some ⟨g, 0, none⟩), .slice none 0 0] W fun e W' => ∃ a, e = .returned (.int .i64 a) ∧ Both w W' g3 k A3 X base n1 L1 n2 L2 := by
  obtain ⟨c, hseg⟩ := o.out.seg
  have hg := G.out
  refine (keep_is none [] 0 0 L.length (Lib.hid hseg) rfl hg.len (Lib.hid (fun f hf => ?_)) (Lib.hid (fun h0 => by simp at h0)) (Nat.zero_le _) (by simp) (Lib.hid (fun x hx => by simp at hx))).mono ?_
  · have := rise_mem hg.rise f hf
    have h0 := hg.b0
    have h1 := hg.n1
    omega
  · rintro e W' ⟨he, hst⟩
    exact ⟨_, he, (o.out.turned p.out hst).1⟩
/-- what a copy leaves -/
theorem copied_old (p : Both w W g k A X base n1 L1 n2 L2) (hs : ∃ c, Seg 87 W' g A c base n1 L1) (f1 : Far g A g3 A3) (f2 : Far g A k X) : Old w W' g A base n1 L1 g3 A3 k X :=
  ⟨hs, f1, f2, p.g0, p.a0⟩
end
end Go.Proofs.Ytpagoeoilkbmjaa.L5
