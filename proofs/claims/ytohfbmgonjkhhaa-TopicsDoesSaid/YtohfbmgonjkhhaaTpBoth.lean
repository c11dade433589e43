/-
  The program's catalog and the document's, side by side.
-/
import Derived.Test.YtohfbmgonjkhhaaTpSome
namespace Go.Proofs.Ytohfbmgonjkhhaa.L9
open Go.RowKit
open Go.Maps
open L3 L4

/-- rows that are no topics, and no catalog of the document's, stay -/
def KS (w w' : World) : Prop := w.heap.size ≤ w'.heap.size ∧ ∀ (j : Nat) cs (T : TypeId) fr, w.heap[j]? = some (.cells cs T fr) → T ≠ 46 → T ≠ 29 → w'.heap[j]? = some (.cells cs T fr)
theorem KS.refl (w : World) : KS w w := ⟨Nat.le_refl _, fun _ _ _ _ h _ _ => h⟩
theorem KS.trans {w w1 w2 : World} (h : KS w w1) (h' : KS w1 w2) : KS w w2 := ⟨Nat.le_trans h.1 h'.1, fun j cs T fr q q1 q2 => h'.2 j cs T fr (h.2 j cs T fr q q1 q2) q1 q2⟩
theorem KS.below {w w' : World} (b : Below w.heap.size w w') : KS w w' := ⟨b.size, fun j _ _ _ q _ _ => (b.block j (Array.getElem?_eq_some_iff.1 q).1).trans q⟩
theorem KS.map {w w' : World} {b N : Nat} {Q : List Pt} (h : IsCat w b N Q) (o : Only [b] w w') : KS w w' := ⟨o.size, fun j cs T fr q _ _ => (o.block j (Array.getElem?_eq_some_iff.1 q).1 (fun e => by
  have e' : j = b := by simpa using e
  obtain ⟨es, c, hb⟩ := h.map
  rw [e', hb] at q; cases q)).trans q⟩
theorem KS.doc {w w' : World} {B k cap : Nat} {A : Option Addr} {Q : List Pt} (h : Doc w B k A cap Q) (o : Only (k :: bk A) w w') : KS w w' := ⟨o.size, fun j cs T fr q n1 n2 => (o.block j (Array.getElem?_eq_some_iff.1 q).1 (fun e => by
  rcases List.mem_cons.1 e with rfl | e
  · rw [h.row] at q; injection q with q; injection q with _ q; exact n2 q.symm
  · obtain ⟨cs', _, hb⟩ := own_bk h.own j e
    rw [hb] at q; injection q with q; injection q with _ q; exact n1 q.symm)).trans q⟩
theorem KS.texts {w w' : World} {base m c n : Nat} {A : Option Addr} {l : List ByteArray} (h : w.ownsRow base 9 1 (.slice A n c) m (texts l)) (k : KS w w') : w'.ownsRow base 9 1 (.slice A n c) m (texts l) :=
  own_at h (fun j e => by
    obtain ⟨cs, _, hb⟩ := own_bk h j (by rw [blk_own] at e; exact mem_bk.2 e)
    rw [hb]; exact k.2 _ _ _ _ hb (by decide) (by decide))
/-- the two, side by side -/
structure ST (W w : World) (g b N k : Nat) (A : Option Addr) (cap : Nat) (Q R : List Pt) : Prop where
  lc : LC W w g b N Q
  doc : Doc w W.heap.size k A cap R
  nil : A = none → cap = 0
  hk : W.heap.size ≤ k
section
variable {W w : World} {g b N k cap : Nat} {A : Option Addr} {Q R : List Pt}
theorem ST.size (h : ST W w g b N k A cap Q R) : W.heap.size ≤ w.heap.size := h.lc.bel.size
theorem cat_doc {w : World} {g b N B k cap : Nat} {A : Option Addr} {Q R : List Pt} (c : Cat w g b N Q) (h : Doc w B k A cap R) : g ∉ k :: bk A ∧ b ∉ k :: bk A := by
  obtain ⟨es, cl, hb⟩ := c.map.map
  refine ⟨fun e => ?_, fun e => ?_⟩
  · rcases List.mem_cons.1 e with rfl | e
    · have q := h.row; rw [c.row] at q; injection q with q; injection q with _ q; exact absurd q (by decide)
    · obtain ⟨cs', _, q⟩ := own_bk h.own g e
      rw [c.row] at q; injection q with q; injection q with _ q; exact absurd q (by decide)
  · rcases List.mem_cons.1 e with rfl | e
    · have q := h.row; rw [hb] at q; cases q
    · obtain ⟨cs', _, q⟩ := own_bk h.own b e
      rw [hb] at q; cases q
theorem doc_map {w w' : World} {b N B k cap : Nat} {A : Option Addr} {Q R : List Pt} (c : IsCat w b N Q) (h : Doc w B k A cap R) (o : Only [b] w w') : Doc w' B k A cap R := by
  obtain ⟨es, cl, hb⟩ := c.map
  refine h.at (o.block k h.lt (fun e => ?_)) (fun j hj => ?_)
  · have e' : k = b := by simpa using e
    have q := h.row; rw [e', hb] at q; cases q
  · obtain ⟨cs', _, q⟩ := own_bk h.own j hj
    refine o.block j (Array.getElem?_eq_some_iff.1 q).1 (fun e => ?_)
    have e' : j = b := by simpa using e
    rw [e', hb] at q; cases q
theorem ST.below {w' : World} (h : ST W w g b N k A cap Q R) (b1 : Below w.heap.size w w') : ST W w' g b N k A cap Q R := ⟨h.lc.below b1, h.doc.below b1, h.nil, h.hk⟩
theorem ST.prog {w' : World} {N' : Nat} {Q' : List Pt} (h : ST W w g b N k A cap Q R) (l : LC W w' g b N' Q') (o : Only [b] w w') : ST W w' g b N' k A cap Q' R := ⟨l, doc_map h.lc.cat.map h.doc o, h.nil, h.hk⟩
theorem ST.turned {w' : World} {R' : List Pt} (h : ST W w g b N k A cap Q R) (t : Turned w W.heap.size k A R' w') : ∃ A' cap', ST W w' g b N k A' cap' Q R' ∧ KS w w' := by
  obtain ⟨A', cap', hd, ho, _, hn⟩ := t
  obtain ⟨h1, h2⟩ := cat_doc h.lc.cat h.doc
  have hb : Below W.heap.size W w' := h.lc.bel.trans (ho.below h.lc.bel.size (fun j hj => by
    rcases List.mem_cons.1 hj with rfl | hj
    · exact h.hk
    · obtain ⟨_, q, _⟩ := own_bk h.doc.own j hj; exact q))
  exact ⟨A', cap', ⟨⟨h.lc.cat.only ho h1 h2, h.lc.good, h.lc.hg, h.lc.hb, hb⟩, hd, hn, h.hk⟩, KS.doc h.doc ho⟩
theorem s9_make (s : ByteArray) (n x : Int) (Q' : List Pt) (S : Hid (ST W w g b N k A cap Q R)) (hN : N ≤ 1000000) (hs : s.size ≤ 281474976710656) (HX : Hid (makeE Q s n = x)) (HQ : Hid (makeQ Q s n = Q')) :
    Calls Try.prog 10 #[.pointer (some ⟨g, 0, none⟩), .string s, .int .i64 n] w fun e w' => e = .returned (.int .i64 x) ∧ ST W w' g b (N + 1) k A cap Q' R ∧ KS w w' :=
  (m9_make s n x Q' (Lib.hid S.out.lc) hN hs HX HQ).mono fun _ _ ⟨he, hl, _, _, ho⟩ => ⟨he, S.out.prog hl ho, KS.map S.out.lc.cat.map ho⟩
theorem s9_grow (s : ByteArray) (n x : Int) (Q' : List Pt) (S : Hid (ST W w g b N k A cap Q R)) (hN : N ≤ 1000000) (hs : s.size ≤ 281474976710656) (HX : Hid (growE Q s n = x)) (HQ : Hid (growQ Q s n = Q')) :
    Calls Try.prog 12 #[.pointer (some ⟨g, 0, none⟩), .string s, .int .i64 n] w fun e w' => e = .returned (.int .i64 x) ∧ ST W w' g b (N + 1) k A cap Q' R ∧ KS w w' :=
  (m9_grow s n x Q' (Lib.hid S.out.lc) hN hs HX HQ).mono fun _ _ ⟨he, hl, _, _, ho⟩ => ⟨he, S.out.prog hl ho, KS.map S.out.lc.cat.map ho⟩
theorem s9_drop (s : ByteArray) (x : Int) (Q' : List Pt) (S : Hid (ST W w g b N k A cap Q R)) (hs : s.size ≤ maxLen) (HX : Hid (dropE Q s = x)) (HQ : Hid (dropQ Q s = Q')) :
    Calls Try.prog 14 #[.pointer (some ⟨g, 0, none⟩), .string s] w fun e w' => e = .returned (.int .i64 x) ∧ ST W w' g b N k A cap Q' R ∧ KS w w' :=
  (m9_drop s x Q' (Lib.hid S.out.lc) hs HX HQ).mono fun _ _ ⟨he, hl, _, _, ho⟩ => ⟨he, S.out.prog hl ho, KS.map S.out.lc.cat.map ho⟩
/-- the copy takes the catalog's place; what was stays beside it -/
theorem s9_copy (S : Hid (ST W w g b N k A cap Q R)) : Calls Try.prog 16 #[.pointer (some ⟨g, 0, none⟩)] w fun e w' => ∃ g' b', e = .returned (.pointer (some ⟨g', 0, none⟩)) ∧ ST W w' g' b' N k A cap Q R ∧ LC W w' g b N Q ∧ b ≠ b' ∧ KS w w' :=
  (m9_copy (Lib.hid S.out.lc)).mono fun _ _ ⟨g', b', he, hl, _, hb, h3⟩ => ⟨g', b', he, ⟨hl, S.out.doc.below h3, S.out.nil, S.out.hk⟩, S.out.lc.below h3, fun e => by have := S.out.lc.cat.map.lt; omega, KS.below h3⟩
theorem ST.old {w' : World} {g' b' N' : Nat} {P : List Pt} (h : ST W w g b N k A cap Q R) (c : LC W w g' b' N' P) (hb : b' ≠ b) (o : Only [b'] w w') : ST W w' g b N k A cap Q R ∧ KS w w' := by
  have k1 := KS.map c.cat.map o
  refine ⟨⟨⟨h.lc.cat.only o (fun e => ?_) (fun e => hb (List.mem_singleton.1 e).symm), h.lc.good, h.lc.hg, h.lc.hb, h.lc.bel.trans (o.below h.lc.bel.size (fun j hj => by rw [show j = b' by simpa using hj]; exact c.hb))⟩, doc_map c.cat.map h.doc o, h.nil, h.hk⟩, k1⟩
  have e' : g = b' := by simpa using e
  obtain ⟨es, cl, q⟩ := c.cat.map.map
  have q' := h.lc.cat.row
  rw [e', q] at q'; cases q'
theorem s9_was_drop {g' b' N' : Nat} {P : List Pt} (s : ByteArray) (S : Hid (ST W w g b N k A cap Q R)) (C : Hid (LC W w g' b' N' P)) (hb : b' ≠ b) (hs : s.size ≤ maxLen) :
    Calls Try.prog 14 #[.pointer (some ⟨g', 0, none⟩), .string s] w fun e w' => e = .returned (.int .i64 (dropE P s)) ∧ ST W w' g b N k A cap Q R ∧ LC W w' g' b' N' (dropQ P s) ∧ KS w w' :=
  (m9_drop s _ _ C hs (Lib.hid rfl) (Lib.hid rfl)).mono fun _ _ ⟨he, hl, _, _, ho⟩ => ⟨he, (S.out.old C.out hb ho).1, hl, (S.out.old C.out hb ho).2⟩
theorem s9_was_make {g' b' N' : Nat} {P : List Pt} (s : ByteArray) (n : Int) (S : Hid (ST W w g b N k A cap Q R)) (C : Hid (LC W w g' b' N' P)) (hb : b' ≠ b) (hN : N' ≤ 1000000) (hs : s.size ≤ 281474976710656) :
    Calls Try.prog 10 #[.pointer (some ⟨g', 0, none⟩), .string s, .int .i64 n] w fun e w' => e = .returned (.int .i64 (makeE P s n)) ∧ ST W w' g b N k A cap Q R ∧ KS w w' :=
  (m9_make s n _ _ C hN hs (Lib.hid rfl) (Lib.hid rfl)).mono fun _ _ ⟨he, _, _, _, ho⟩ => ⟨he, S.out.old C.out hb ho⟩
theorem s9_rmake (s : ByteArray) (n x : Int) (R' : List Pt) (S : Hid (ST W w g b N k A cap Q R)) (G : Hid (Good R)) (hs : s.size ≤ maxLen) (HX : Hid (makeE R s n = x)) (HQ : Hid (makeQ R s n = R')) :
    Calls Try.prog 11 #[.pointer (some ⟨k, 0, none⟩), .string s, .int .i64 n] w fun e w' => e = .returned (.int .i64 x) ∧ ∃ A' cap', ST W w' g b N k A' cap' Q R' ∧ KS w w' :=
  (rmake_is s n x (Lib.hid S.out.doc) (Lib.hid S.out.nil) G (Lib.hid S.out.size) hs HX).mono fun _ _ ⟨he, t⟩ => ⟨he, S.out.turned (by rw [← HQ.out]; exact t)⟩
theorem s9_rgrow (s : ByteArray) (n x : Int) (R' : List Pt) (S : Hid (ST W w g b N k A cap Q R)) (G : Hid (Good R)) (HX : Hid (growE R s n = x)) (HQ : Hid (growQ R s n = R')) :
    Calls Try.prog 13 #[.pointer (some ⟨k, 0, none⟩), .string s, .int .i64 n] w fun e w' => e = .returned (.int .i64 x) ∧ ∃ A' cap', ST W w' g b N k A' cap' Q R' ∧ KS w w' :=
  (rgrow_is s n x (Lib.hid S.out.doc) (Lib.hid S.out.nil) G rfl HX).mono fun _ _ ⟨he, t⟩ => ⟨he, S.out.turned (by rw [← HQ.out]; exact t)⟩
theorem s9_rdrop (s : ByteArray) (x : Int) (R' : List Pt) (S : Hid (ST W w g b N k A cap Q R)) (G : Hid (Good R)) (HX : Hid (dropE R s = x)) (HQ : Hid (dropQ R s = R')) :
    Calls Try.prog 15 #[.pointer (some ⟨k, 0, none⟩), .string s] w fun e w' => e = .returned (.int .i64 x) ∧ ∃ A' cap', ST W w' g b N k A' cap' Q R' ∧ KS w w' :=
  (rdrop_is s x (Lib.hid S.out.doc) (Lib.hid S.out.nil) G rfl (Lib.hid S.out.size) HX).mono fun _ _ ⟨he, t⟩ => ⟨he, S.out.turned (by rw [← HQ.out]; exact t)⟩
theorem s9_list (S : Hid (ST W w g b N k A cap Q R)) : Calls Try.prog 17 #[.pointer (some ⟨g, 0, none⟩)] w fun e w' => ∃ A' c, e = .returned (.slice A' Q.length c) ∧ ReadsP w' w'.heap.size A' Q ∧ w'.ownsRow w.heap.size 46 2 (.slice A' Q.length c) Q.length (rowP Q) ∧ Below w.heap.size w w' :=
  (m9_list Q.length (Lib.hid S.out.lc) rfl).mono fun _ _ ⟨A', c, he, ho, hb⟩ => ⟨A', c, he, own_reads ho rfl (own_lt ho), ho, hb⟩
theorem s9_parts (ns : List ByteArray) (P : List Pt) (n cn : Nat) (An : Option Addr) (S : Hid (ST W w g b N k A cap Q R)) (hN : Hid (ReadsT w w.heap.size An ns)) (hn : Hid (ns.length = n)) (hlm : n ≤ 1000000) (HP : Hid (partsQ Q ns = P)) :
    Calls Try.prog 24 #[.pointer (some ⟨g, 0, none⟩), .slice An n cn] w fun e w' => ∃ A' c, e = .returned (.slice A' P.length c) ∧ ReadsP w' w'.heap.size A' P ∧ Below w.heap.size w w' :=
  (m9_parts ns P P.length n cn An (Lib.hid S.out.lc) hN hn hlm HP (Lib.hid rfl)).mono fun _ _ ⟨A', c, he, ho, hb⟩ => ⟨A', c, he, own_reads ho rfl (own_lt ho), hb⟩
theorem s9_rparts (ns : List ByteArray) (P : List Pt) (n cn : Nat) (An : Option Addr) (S : Hid (ST W w g b N k A cap Q R)) (G : Hid (Good R)) (hN : Hid (ReadsT w w.heap.size An ns)) (hn : Hid (ns.length = n)) (hlm : n ≤ 1000000) (HP : Hid (partsQ R ns = P)) :
    Calls Try.prog 25 #[.pointer (some ⟨k, 0, none⟩), .slice An n cn] w fun e w' => ∃ A' c, e = .returned (.slice A' P.length c) ∧ ReadsP w' w'.heap.size A' P ∧ Below w.heap.size w w' := by
  have h := L9.rparts_is (cn := cn) ns (Lib.hid S.out.doc) G rfl hN hn hlm
  rw [HP.out] at h
  exact h.mono fun _ _ ⟨A', c, he, ho, hb⟩ => ⟨A', c, he, own_reads ho rfl (own_lt ho), hb⟩
theorem s9_same (l : List Pt) (A1 A2 : Option Addr) (c1 c2 : Nat) (hl : l.length ≤ 1000000) (h1 : Hid (ReadsP w w.heap.size A1 l)) (h2 : Hid (ReadsP w w.heap.size A2 l)) :
    Calls Try.prog 18 #[.slice A1 l.length c1, .slice A2 l.length c2] w fun e w' => e = .returned (.bool true) ∧ Below w.heap.size w w' :=
  rsame_is A1 A2 l l c1 c2 w.heap.size true w h1 h2 (Nat.le_refl _) (by unfold maxLen; omega) (Lib.hid (by simp))
theorem s9_alike (l : List Pt) (A1 A2 : Option Addr) (c1 c2 : Nat) (hl : l.length ≤ 1000000) (h1 : Hid (ReadsP w w.heap.size A1 l)) (h2 : Hid (ReadsP w w.heap.size A2 l)) :
    Calls Try.prog 23 #[.slice A1 l.length c1, .slice A2 l.length c2] w fun e w' => e = .returned (.bool true) ∧ Below w.heap.size w w' :=
  L4.rparts_is A1 A2 l l c1 c2 w.heap.size true w h1 h2 (Nat.le_refl _) (by unfold maxLen; omega) (Lib.hid (by simp))
end
/-- the row of an answer, which is its owner's -/
def SH (w : World) (B : Nat) (A : Option Addr) (n : Nat) : Prop := 0 < n → ∃ g cs, A = some ⟨g, 0, none⟩ ∧ B ≤ g ∧ w.heap[g]? = some (.cells cs 46 (0, 0)) ∧ 2 * n ≤ cs.size
theorem sh_own {w : World} {base c : Nat} {A : Option Addr} {l : List Pt} (h : w.ownsRow base 46 2 (.slice A l.length c) l.length (rowP l)) : SH w base A l.length := fun h0 => by
  obtain ⟨g, e, _, hc⟩ := own_reads h rfl (own_lt h) h0
  obtain ⟨cs, h1, hb⟩ := own_bk h g (by rw [e]; simp [bk])
  refine ⟨g, cs, e, h1, hb, ?_⟩
  have q := (hc (l.length - 1) _ (List.getElem?_eq_getElem (show l.length - 1 < l.length by omega))).2
  rw [cell_of_row _ _ _ _ _ _ hb] at q
  have := (Array.getElem?_eq_some_iff.1 q).1
  omega
theorem SH.below {w w' : World} {B : Nat} {A : Option Addr} {n : Nat} (h : SH w B A n) (hb : Below w.heap.size w w') : SH w' B A n := fun h0 => by
  obtain ⟨g, cs, e, h1, h2, h3⟩ := h h0
  exact ⟨g, cs, e, h1, (hb.block g (Array.getElem?_eq_some_iff.1 h2).1).trans h2, h3⟩
/-- one of its cells is set -/
theorem SH.set {w : World} {B g n : Nat} (h : SH w B (some ⟨g, 0, none⟩) n) (i : Nat) (v : Value) : SH (w.setCell ⟨g, i, none⟩ v) B (some ⟨g, 0, none⟩) n := fun h0 => by
  obtain ⟨g', cs, e, h1, h2, h3⟩ := h h0
  injection e with e; injection e with e; subst e
  exact ⟨g, _, rfl, h1, heap_setCell_same _ _ _ _ _ _ h2, by rw [Array.size_setIfInBounds]; exact h3⟩
theorem SH.cell {w : World} {B g n i : Nat} (h : SH w B (some ⟨g, 0, none⟩) n) (hi : i < n) : B ≤ g ∧ w.frozen? ⟨g, i * 2 + 1, none⟩ = false ∧ ∃ x, w.cell? ⟨g, i * 2 + 1, none⟩ = some x := by
  obtain ⟨g', cs, e, h1, h2, h3⟩ := h (by omega)
  injection e with e; injection e with e; subst e
  exact ⟨h1, frozen_of_row _ _ _ _ _ h2, _, (cell_of_row _ _ _ _ _ _ h2).trans (Array.getElem?_eq_getElem (by omega))⟩
end Go.Proofs.Ytohfbmgonjkhhaa.L9
