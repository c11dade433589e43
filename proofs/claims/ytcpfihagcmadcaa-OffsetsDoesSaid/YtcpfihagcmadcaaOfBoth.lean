/-
  The program's table of marks and the document's, side by side.
-/
import Derived.Test.YtcpfihagcmadcaaOfRput
namespace Go.Proofs.Ytcpfihagcmadcaa.L12
open Go.RowKit
open Go.Maps
open L3 L4

/-- a mark in a block of its own, below all that comes -/
def Box (w : World) (bx : Nat) (m : Mr) : Prop := w.heap[bx]? = some (.cells #[.string m.g, .string m.t, .int .i64 m.p, .int .i64 m.o] 32 (0, 0))
theorem Box.at {w : World} {bx : Nat} {m : Mr} (h : Box w bx m) : MarkAt w bx 0 m := by
  obtain ⟨a0, a1, a2, a3⟩ := row4 h
  exact ⟨a0, a1, a2, a3⟩
theorem Box.lt {w : World} {bx : Nat} {m : Mr} (h : Box w bx m) : bx < w.heap.size := (Array.getElem?_eq_some_iff.1 h).1
theorem Box.below {w w' : World} {bx : Nat} {m : Mr} (h : Box w bx m) (hb : Below w.heap.size w w') : Box w' bx m := (hb.block bx h.lt).trans h
theorem Box.prog {w w' : World} {bx b N : Nat} {Q : List Mr} {m : Mr} (h : Box w bx m) (c : IsMarks w b N Q) (o : Only [b] w w') : Box w' bx m := (o.block bx h.lt (fun e => by
  have e' : bx = b := by simpa using e
  obtain ⟨es, cl, hb⟩ := c.map
  have q : w.heap[bx]? = _ := h
  rw [e', hb] at q; cases q)).trans h
/-- the two, side by side; the document's row lies apart from a block X -/
structure ST (W w : World) (g b N k X : Nat) (A : Option Addr) (cap : Nat) (Q R : List Mr) : Prop where
  lt : LT W w g b N Q
  doc : Doc w W.heap.size k A cap R
  nil : A = none → cap = 0
  hk : W.heap.size ≤ k
  off : X ∉ k :: bk A
section
variable {W w : World} {g b N k cap X : Nat} {A : Option Addr} {Q R : List Mr}
theorem ST.size (h : ST W w g b N k X A cap Q R) : W.heap.size ≤ w.heap.size := h.lt.bel.size
theorem tab_doc {w : World} {g b N B k cap : Nat} {A : Option Addr} {Q R : List Mr} (c : Tab w g b N Q) (h : Doc w B k A cap R) : g ∉ k :: bk A ∧ b ∉ k :: bk A := by
  obtain ⟨es, cl, hb⟩ := c.map.map
  refine ⟨fun e => ?_, fun e => ?_⟩
  · rcases List.mem_cons.1 e with rfl | e
    · have q := h.row; rw [c.row] at q; injection q with q; injection q with _ q; exact absurd q (by decide)
    · obtain ⟨cs', _, q⟩ := own_bk h.own g e
      rw [c.row] at q; injection q with q; injection q with _ q; exact absurd q (by decide)
  · rcases List.mem_cons.1 e with rfl | e
    · have q := h.row; rw [hb] at q; cases q
    · obtain ⟨cs', _, q⟩ := own_bk h.own b e
      rw [hb] at q; cases q
theorem doc_map {w w' : World} {b N B k cap : Nat} {A : Option Addr} {Q R : List Mr} (c : IsMarks w b N Q) (h : Doc w B k A cap R) (o : Only [b] w w') : Doc w' B k A cap R := by
  obtain ⟨es, cl, hb⟩ := c.map
  refine h.at (o.block k h.lt (fun e => ?_)) (fun j hj => ?_)
  · have e' : k = b := by simpa using e
    have q := h.row; rw [e', hb] at q; cases q
  · obtain ⟨cs', _, q⟩ := own_bk h.own j hj
    refine o.block j (Array.getElem?_eq_some_iff.1 q).1 (fun e => ?_)
    have e' : j = b := by simpa using e
    rw [e', hb] at q; cases q
theorem ST.below {w' : World} (h : ST W w g b N k X A cap Q R) (b1 : Below w.heap.size w w') : ST W w' g b N k X A cap Q R := ⟨h.lt.below b1, h.doc.below b1, h.nil, h.hk, h.off⟩
theorem ST.mono {N' : Nat} (h : ST W w g b N k X A cap Q R) (hN : N ≤ N') : ST W w g b N' k X A cap Q R := ⟨⟨h.lt.tab.mono hN, h.lt.good, h.lt.hg, h.lt.hb, h.lt.bel⟩, h.doc, h.nil, h.hk, h.off⟩
/-- another block apart from the document's row -/
theorem ST.apart {X' : Nat} (h : ST W w g b N k X A cap Q R) (hX : w.heap.size ≤ X') : ST W w g b N k X' A cap Q R := ⟨h.lt, h.doc, h.nil, h.hk, fun e => by
  rcases List.mem_cons.1 e with e | e
  · have := h.doc.lt; omega
  · have := own_lt h.doc.own _ e; omega⟩
theorem ST.prog {w' : World} {N' : Nat} {Q' : List Mr} (h : ST W w g b N k X A cap Q R) (l : LT W w' g b N' Q') (o : Only [b] w w') : ST W w' g b N' k X A cap Q' R := ⟨l, doc_map h.lt.tab.map h.doc o, h.nil, h.hk, h.off⟩
/-- the document's table was turned -/
theorem ST.turned {w' : World} {R' : List Mr} {m : Mr} (h : ST W w g b N k X A cap Q R) (x : Box w X m) (t : RTurn w W.heap.size k A R' w') : ∃ A' cap', ST W w' g b N k X A' cap' Q R' ∧ Box w' X m := by
  obtain ⟨A', cap', hd, hnil, ho, hn⟩ := t
  obtain ⟨h1, h2⟩ := tab_doc h.lt.tab h.doc
  have hb : Below W.heap.size W w' := h.lt.bel.trans (ho.below h.lt.bel.size (fun j hj => by
    rcases List.mem_cons.1 hj with rfl | hj
    · exact h.hk
    · obtain ⟨_, q, _⟩ := own_bk h.doc.own j hj; exact q))
  refine ⟨A', cap', ⟨⟨h.lt.tab.only ho h1 h2, h.lt.good, h.lt.hg, h.lt.hb, hb⟩, hd, hnil, h.hk, fun e => ?_⟩, (ho.block X x.lt h.off).trans x⟩
  rcases List.mem_cons.1 e with e | e
  · exact h.off (by rw [e]; exact List.mem_cons_self)
  · rcases hn X e with q | q
    · exact h.off (List.mem_cons_of_mem _ q)
    · have := x.lt; omega
/-! ### the calls -/
variable {m : Mr}
theorem s_put (gr t : ByteArray) (p o x : Int) (Q' : List Mr) (S : Hid (ST W w g b N k X A cap Q R)) (XB : Hid (Box w X m)) (hN : N ≤ 1000000) (hg : Hid (gr.size ≤ maxLen)) (ht : Hid (t.size ≤ maxLen)) (hp : Hid ((Lit.int .i64 p).wf = true)) (HX : Hid (putE Q ⟨gr, t, p, o⟩ = x)) (HQ : Hid (putQ Q ⟨gr, t, p, o⟩ = Q')) :
    Calls Try.prog 7 #[.pointer (some ⟨g, 0, none⟩), .agg #[.string gr, .string t, .int .i64 p, .int .i64 o]] w fun e w' => e = .returned (.int .i64 x) ∧ ST W w' g b (N + 1) k X A cap Q' R ∧ Box w' X m :=
  (m_put gr t p o x Q' (Lib.hid S.out.lt) hN hg ht hp HX HQ).mono fun _ _ ⟨he, hl, _, ho⟩ => ⟨he, S.out.prog hl ho, XB.out.prog S.out.lt.tab.map ho⟩
theorem s_raise (t : ByteArray) (p least x : Int) (Q' : List Mr) (L : Nat) (S : Hid (ST W w g b N k X A cap Q R)) (XB : Hid (Box w X m)) (hN : N ≤ 1000000) (HLW : Hid ((Lit.int .i64 least).wf = true)) (HL : Hid (Q.length = L)) (hl : L ≤ 1000000) (HX : Hid (raiseN Q t p least = x)) (HQ : Hid (raiseQ Q t p least = Q')) :
    Calls Try.prog 9 #[.pointer (some ⟨g, 0, none⟩), .agg #[.string t, .int .i64 p], .int .i64 least] w fun e w' => e = .returned (.int .i64 x) ∧ ST W w' g b (N + 1) k X A cap Q' R ∧ Box w' X m :=
  (m_raise t p least x Q' L (Lib.hid S.out.lt) hN HLW HL hl HX HQ).mono fun _ _ ⟨he, hl, _, ho⟩ => ⟨he, (S.out.prog hl ho).mono (Nat.le_succ _), XB.out.prog S.out.lt.tab.map ho⟩
theorem s_drop (gr : ByteArray) (x : Int) (Q' : List Mr) (L : Nat) (S : Hid (ST W w g b N k X A cap Q R)) (XB : Hid (Box w X m)) (HL : Hid (Q.length = L)) (hl : L ≤ 1000000) (HX : Hid (dropN Q gr = x)) (HQ : Hid (dropQ Q gr = Q')) :
    Calls Try.prog 11 #[.pointer (some ⟨g, 0, none⟩), .string gr] w fun e w' => e = .returned (.int .i64 x) ∧ ST W w' g b (N + 1) k X A cap Q' R ∧ Box w' X m :=
  (m_drop gr x Q' L (Lib.hid S.out.lt) HL hl HX HQ).mono fun _ _ ⟨he, hl, _, ho⟩ => ⟨he, (S.out.prog hl ho).mono (Nat.le_succ _), XB.out.prog S.out.lt.tab.map ho⟩
/-- the copy takes the table's place; what was stays beside it -/
theorem s_copy (S : Hid (ST W w g b N k X A cap Q R)) (XB : Hid (Box w X m)) : Calls Try.prog 13 #[.pointer (some ⟨g, 0, none⟩)] w fun e w' => ∃ g' b', e = .returned (.pointer (some ⟨g', 0, none⟩)) ∧ ST W w' g' b' N k X A cap Q R ∧ LT W w' g b N Q ∧ b ≠ b' ∧ Box w' X m :=
  (m_copy (Lib.hid S.out.lt)).mono fun _ _ ⟨g', b', he, hl, _, hb, h3⟩ => ⟨g', b', he, ⟨hl, S.out.doc.below h3, S.out.nil, S.out.hk, S.out.off⟩, S.out.lt.below h3, fun e => by have := S.out.lt.tab.map.lt; omega, XB.out.below h3⟩
theorem ST.old {w' : World} {g' b' N' : Nat} {P : List Mr} (h : ST W w g b N k X A cap Q R) (c : LT W w g' b' N' P) (hb : b' ≠ b) (o : Only [b'] w w') : ST W w' g b N k X A cap Q R := by
  refine ⟨⟨h.lt.tab.only o (fun e => ?_) (fun e => hb (List.mem_singleton.1 e).symm), h.lt.good, h.lt.hg, h.lt.hb, h.lt.bel.trans (o.below h.lt.bel.size (fun j hj => by rw [show j = b' by simpa using hj]; exact c.hb))⟩, doc_map c.tab.map h.doc o, h.nil, h.hk, h.off⟩
  have e' : g = b' := by simpa using e
  obtain ⟨es, cl, q⟩ := c.tab.map.map
  have q' := h.lt.tab.row
  rw [e', q] at q'; cases q'
theorem s_was_put {g' b' N' : Nat} {P : List Mr} (gr t : ByteArray) (p o : Int) (S : Hid (ST W w g b N k X A cap Q R)) (XB : Hid (Box w X m)) (C : Hid (LT W w g' b' N' P)) (hb : b' ≠ b) (hN : N' ≤ 1000000) (hg : Hid (gr.size ≤ maxLen)) (ht : Hid (t.size ≤ maxLen)) (hp : Hid ((Lit.int .i64 p).wf = true)) :
    Calls Try.prog 7 #[.pointer (some ⟨g', 0, none⟩), .agg #[.string gr, .string t, .int .i64 p, .int .i64 o]] w fun e w' => e = .returned (.int .i64 (putE P ⟨gr, t, p, o⟩)) ∧ ST W w' g b N k X A cap Q R ∧ LT W w' g' b' (N' + 1) (putQ P ⟨gr, t, p, o⟩) ∧ Box w' X m :=
  (m_put gr t p o _ _ C hN hg ht hp (Lib.hid rfl) (Lib.hid rfl)).mono fun _ _ ⟨he, hl, _, ho⟩ => ⟨he, S.out.old C.out hb ho, hl, XB.out.prog C.out.tab.map ho⟩
theorem s_was_drop {g' b' N' : Nat} {P : List Mr} (gr : ByteArray) (S : Hid (ST W w g b N k X A cap Q R)) (XB : Hid (Box w X m)) (C : Hid (LT W w g' b' N' P)) (hb : b' ≠ b) (hl : P.length ≤ 1000000) :
    Calls Try.prog 11 #[.pointer (some ⟨g', 0, none⟩), .string gr] w fun e w' => e = .returned (.int .i64 (dropN P gr)) ∧ ST W w' g b N k X A cap Q R ∧ Box w' X m :=
  (m_drop gr _ _ P.length C (Lib.hid rfl) hl (Lib.hid rfl) (Lib.hid rfl)).mono fun _ _ ⟨he, _, _, ho⟩ => ⟨he, S.out.old C.out hb ho, XB.out.prog C.out.tab.map ho⟩
theorem s_rput (gr t : ByteArray) (p o x : Int) (R' : List Mr) (L : Nat) (S : Hid (ST W w g b N k X A cap Q R)) (XB : Hid (Box w X m)) (G : Hid (Good R)) (HL : Hid (R.length = L)) (hl : L ≤ 1000000) (hg : Hid (gr.size ≤ maxLen)) (ht : Hid (t.size ≤ maxLen)) (HX : Hid (putE R ⟨gr, t, p, o⟩ = x)) (HQ : Hid (putQ R ⟨gr, t, p, o⟩ = R')) :
    Calls Try.prog 8 #[.pointer (some ⟨k, 0, none⟩), .agg #[.string gr, .string t, .int .i64 p, .int .i64 o]] w fun e w' => e = .returned (.int .i64 x) ∧ ∃ A' cap', ST W w' g b N k X A' cap' Q R' ∧ Box w' X m :=
  (rput_is gr t p o x R' L (Lib.hid S.out.doc) (Lib.hid S.out.nil) G (Lib.hid S.out.size) HL hl hg ht HX HQ).mono fun _ _ ⟨he, t⟩ => ⟨he, S.out.turned XB.out t⟩
theorem s_rraise (t : ByteArray) (p least x : Int) (R' : List Mr) (L : Nat) (S : Hid (ST W w g b N k X A cap Q R)) (XB : Hid (Box w X m)) (HL : Hid (R.length = L)) (hl : L ≤ 1000000) (HX : Hid (raiseN R t p least = x)) (HQ : Hid (raiseQ R t p least = R')) :
    Calls Try.prog 10 #[.pointer (some ⟨k, 0, none⟩), .agg #[.string t, .int .i64 p], .int .i64 least] w fun e w' => e = .returned (.int .i64 x) ∧ ∃ A' cap', ST W w' g b N k X A' cap' Q R' ∧ Box w' X m :=
  (rraise_is t p least x L (Lib.hid S.out.doc) (Lib.hid S.out.nil) HL hl HX).mono fun _ _ ⟨he, t⟩ => ⟨he, S.out.turned XB.out (by rw [← HQ.out]; exact t)⟩
theorem s_rdrop (gr : ByteArray) (x : Int) (R' : List Mr) (L : Nat) (S : Hid (ST W w g b N k X A cap Q R)) (XB : Hid (Box w X m)) (HL : Hid (R.length = L)) (hl : L ≤ 1000000) (HX : Hid (dropN R gr = x)) (HQ : Hid (dropQ R gr = R')) :
    Calls Try.prog 12 #[.pointer (some ⟨k, 0, none⟩), .string gr] w fun e w' => e = .returned (.int .i64 x) ∧ ∃ A' cap', ST W w' g b N k X A' cap' Q R' ∧ Box w' X m :=
  (rdrop_is gr x L (Lib.hid S.out.doc) (Lib.hid S.out.size) HL hl HX).mono fun _ _ ⟨he, t⟩ => ⟨he, S.out.turned XB.out (by rw [← HQ.out]; exact t)⟩
end
/-- the row of an answer, which is its owner's -/
def SH (w : World) (B : Nat) (A : Option Addr) (n : Nat) : Prop := 0 < n → ∃ g cs, A = some ⟨g, 0, none⟩ ∧ B ≤ g ∧ w.heap[g]? = some (.cells cs 32 (0, 0)) ∧ 4 * n ≤ cs.size
theorem sh_own {w : World} {base c : Nat} {A : Option Addr} {l : List Mr} {n : Nat} (hn : l.length = n) (h : w.ownsRow base 32 4 (.slice A n c) n (rowM l)) : SH w base A n := fun h0 => by
  subst hn
  obtain ⟨g, o, e, _, hc⟩ := own_reads h rfl (own_lt h) h0
  have ho : o = 0 := by
    rcases h.2 with ⟨_, q⟩ | ⟨g', cap', cur, q, _⟩
    · omega
    · injection q with q; rw [e] at q; injection q with q; injection q
  subst ho
  obtain ⟨cs, h1, hb⟩ := own_bk h g (by rw [e]; simp [bk])
  refine ⟨g, cs, e, h1, hb, ?_⟩
  have q := (hc (l.length - 1) _ (List.getElem?_eq_getElem (show l.length - 1 < l.length by omega))).c3
  rw [cell_of_row _ _ _ _ _ _ hb] at q
  have := (Array.getElem?_eq_some_iff.1 q).1
  omega
theorem SH.below {w w' : World} {B : Nat} {A : Option Addr} {n : Nat} (h : SH w B A n) (hb : Below w.heap.size w w') : SH w' B A n := fun h0 => by
  obtain ⟨g, cs, e, h1, h2, h3⟩ := h h0
  exact ⟨g, cs, e, h1, (hb.block g (Array.getElem?_eq_some_iff.1 h2).1).trans h2, h3⟩
/-- one of its cells is set -/
theorem SH.set {w : World} {B g n : Nat} (h : SH w B (some ⟨g, 0, none⟩) n) (i : Nat) (v : Value) : SH (w.setCell ⟨g, i, none⟩ v) B (some ⟨g, 0, none⟩) n := fun h0 => by
  obtain ⟨g', cs, e, h1, h2, h3⟩ := h h0
  injection e with e; injection e with e; subst e
  exact ⟨g, _, rfl, h1, heap_setCell_same _ _ _ _ _ _ h2, by rw [Array.size_setIfInBounds]; exact h3⟩
theorem SH.cell {w : World} {B g n i : Nat} (h : SH w B (some ⟨g, 0, none⟩) n) (hi : i < n) : B ≤ g ∧ w.frozen? ⟨g, i * 4 + 3, none⟩ = false ∧ ∃ x, w.cell? ⟨g, i * 4 + 3, none⟩ = some x := by
  obtain ⟨g', cs, e, h1, h2, h3⟩ := h (by omega)
  injection e with e; injection e with e; subst e
  exact ⟨h1, frozen_of_row _ _ _ _ _ h2, _, (cell_of_row _ _ _ _ _ _ h2).trans (Array.getElem?_eq_getElem (by omega))⟩
end Go.Proofs.Ytcpfihagcmadcaa.L12
