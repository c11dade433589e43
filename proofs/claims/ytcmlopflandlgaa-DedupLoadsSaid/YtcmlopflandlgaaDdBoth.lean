/-
  The program's table and the document's, side by side.
-/
import Derived.Test.YtcmlopflandlgaaDdRdone2
import Derived.Test.YtcmlopflandlgaaDdCopy
namespace Go.Proofs.Ytcmlopflandlgaa.L8
open Go.RowKit
open Go.Maps
open L3 L4

/-- rows that are no tables, and no numbers, stay -/
def KB (w w' : World) : Prop := w.heap.size ≤ w'.heap.size ∧ ∀ (j : Nat) cs (T : TypeId) fr, w.heap[j]? = some (.cells cs T fr) → T ≠ 65 → T ≠ 3 → T ≠ 29 → w'.heap[j]? = some (.cells cs T fr)
theorem KB.refl (w : World) : KB w w := ⟨Nat.le_refl _, fun _ _ _ _ h _ _ _ => h⟩
theorem KB.trans {w w1 w2 : World} (h : KB w w1) (h' : KB w1 w2) : KB w w2 := ⟨Nat.le_trans h.1 h'.1, fun j cs T fr q q1 q2 q3 => h'.2 j cs T fr (h.2 j cs T fr q q1 q2 q3) q1 q2 q3⟩
theorem KB.below {w w' : World} (b : Below w.heap.size w w') : KB w w' := ⟨b.size, fun j _ _ _ q _ _ _ => (b.block j (Array.getElem?_eq_some_iff.1 q).1).trans q⟩
theorem KB.fr {w w' : World} (f : Fr w w') : KB w w' := ⟨f.size, fun _ _ _ _ q q1 q2 _ => f.box q q1 q2⟩
theorem KB.doc {w w' : World} {B k cE cL : Nat} {AE AL : Option Addr} {es : List Int} {vs : List MV} (h : RT B w k AE cE AL cL es vs) (o : Only (k :: bk AE) w w') : KB w w' := ⟨o.size, fun j cs T fr q _ q2 q3 => (o.block j (Array.getElem?_eq_some_iff.1 q).1 (fun e => by
  rcases List.mem_cons.1 e with rfl | e
  · rw [h.row] at q; injection q with q; injection q with _ q; exact q3 q.symm
  · obtain ⟨cs', _, hb⟩ := own_bk h.eown j e
    rw [hb] at q; injection q with q; injection q with _ q; exact q2 q.symm)).trans q⟩
/-- the two, side by side -/
structure ST (W w : World) (g : Nat) (A : Option Addr) (cap b N k : Nat) (AE : Option Addr) (cE : Nat) (AL : Option Addr) (cL : Nat) (es : List Int) (ms : List Mk) (fs : List Int) (vs : List MV) : Prop where
  tab : Tab w g A cap b N es ms
  doc : RT W.heap.size w k AE cE AL cL fs vs
  news : ∀ j ∈ blocks g A b, W.heap.size ≤ j
  hk : W.heap.size ≤ k
  bel : Below W.heap.size W w
  apart : ∀ j ∈ bk A, j ∉ bk AE
section
variable {W w w' : World} {g cap b N k cE cL : Nat} {A AE AL : Option Addr} {es fs : List Int} {ms : List Mk} {vs : List MV}
theorem ST.disj (h : ST W w g A cap b N k AE cE AL cL es ms fs vs) : ∀ j ∈ k :: (bk AE ++ bk AL), j ∉ blocks g A b := fun j hj e => by
  have key : ∀ cs T fr, w.heap[j]? = some (.cells cs T fr) → T ≠ 65 → (T = 3 → j ∈ bk AE) → False := fun cs T fr q q1 q2 => by
    rcases List.mem_cons.1 e with rfl | e
    · rw [h.tab.row] at q; injection q with q; injection q with _ q; exact q1 q.symm
    · rcases List.mem_cons.1 e with rfl | e
      · obtain ⟨es', c, hb⟩ := h.tab.map.map
        rw [hb] at q; injection q with q; cases q
      · obtain ⟨cs', _, hb⟩ := own_bk h.tab.own j e
        rw [hb] at q; injection q with q; injection q with _ q
        exact h.apart j e (q2 q.symm)
  rcases List.mem_cons.1 hj with rfl | hj
  · exact key _ _ _ h.doc.row (by decide) (fun e => absurd e (by decide))
  · rcases List.mem_append.1 hj with hj | hj
    · obtain ⟨cs', _, hb⟩ := own_bk h.doc.eown j hj
      exact key _ _ _ hb (by decide) (fun _ => hj)
    · obtain ⟨cs', _, hb⟩ := own_bk h.doc.lown j hj
      exact key _ _ _ hb (by decide) (fun e => absurd e (by decide))
theorem did_only {S : List Nat} (o : Only S w w') (hS : NoDid w S) : ∀ (q : Nat) (cs : Array Value) (fr : Nat × Nat), w.heap[q]? = some (.cells cs 50 fr) → w'.heap[q]? = w.heap[q]? := fun q cs fr hq =>
  o.block q (Array.getElem?_eq_some_iff.1 hq).1 (fun e => hS q e cs fr hq)
theorem RT.lt_blk {B : Nat} (h : RT B w k AE cE AL cL fs vs) : ∀ j ∈ k :: (bk AE ++ bk AL), j < w.heap.size := fun j hj => by
  rcases List.mem_cons.1 hj with rfl | hj
  · exact h.lt
  · rcases List.mem_append.1 hj with hj | hj
    · exact h.ltE j hj
    · exact h.ltL j hj
theorem ST.below (h : ST W w g A cap b N k AE cE AL cL es ms fs vs) (b1 : Below w.heap.size w w') : ST W w' g A cap b N k AE cE AL cL es ms fs vs :=
  ⟨h.tab.below b1, h.doc.below b1, h.news, h.hk, h.bel.trans (b1.mono h.bel.size), h.apart⟩
/-- neither was turned -/
theorem ST.other {S : List Nat} (h : ST W w g A cap b N k AE cE AL cL es ms fs vs) (o : Only S w w') (hS : NoDid w S) (h1 : ∀ j ∈ S, W.heap.size ≤ j ∧ j ∉ blocks g A b ∧ j ∉ k :: (bk AE ++ bk AL)) : ST W w' g A cap b N k AE cE AL cL es ms fs vs :=
  ⟨h.tab.kept (fun j hj => o.block j (h.tab.blk_lt j hj) (fun e => (h1 j e).2.1 hj)) (did_only o hS), h.doc.kept (fun j hj => o.block j (h.doc.lt_blk j hj) (fun e => (h1 j e).2.2 hj)) (did_only o hS), h.news, h.hk, h.bel.trans (o.below h.bel.size (fun j hj => (h1 j hj).1)), h.apart⟩
/-- the program's was turned -/
theorem ST.prog {A' : Option Addr} {cap' N' : Nat} {es' : List Int} {ms' : List Mk} (h : ST W w g A cap b N k AE cE AL cL es ms fs vs) (t : Tab w' g A' cap' b N' es' ms') (o : Only (blocks g A b) w w') (hA : ∀ j ∈ bk A', j ∈ bk A ∨ w.heap.size ≤ j) : ST W w' g A' cap' b N' k AE cE AL cL es' ms' fs vs := by
  refine ⟨t, h.doc.kept (fun j hj => o.block j (h.doc.lt_blk j hj) (h.disj j hj)) (did_only o h.tab.noDid), fun j hj => ?_, h.hk, h.bel.trans (o.below h.bel.size h.news), fun j hj e => ?_⟩
  · rcases List.mem_cons.1 hj with rfl | hj
    · exact h.news _ (by simp [blocks])
    · rcases List.mem_cons.1 hj with rfl | hj
      · exact h.news _ (by simp [blocks])
      · rcases hA j hj with q | q
        · exact h.news j (by simp [blocks, q])
        · exact Nat.le_trans h.bel.size q
  · rcases hA j hj with q | q
    · exact h.apart j q e
    · have := h.doc.ltE j e; omega
theorem RT.noDidE {B : Nat} (h : RT B w k AE cE AL cL fs vs) : NoDid w (k :: bk AE) := fun j hj => h.noDid j (by rcases List.mem_cons.1 hj with rfl | hj <;> simp [*])
/-- the document's was turned -/
theorem ST.turned {fs' : List Int} {ns' : List Mk} (h : ST W w g A cap b N k AE cE AL cL es ms fs vs) (t : RTurned w W.heap.size k AE AL fs' ns' w') : ∃ AE' cE' AL' cL' vs', ST W w' g A cap b N k AE' cE' AL' cL' es ms fs' vs' ∧ vs'.map (·.m) = ns' ∧ KB w w' := by
  obtain ⟨AE', cE', AL', cL', vs', hd, hv, ho, hE, hL⟩ := t
  have dis : ∀ j ∈ blocks g A b, j ∉ k :: bk AE := fun j hj e => h.disj j (by rcases List.mem_cons.1 e with rfl | e <;> simp [*]) hj
  refine ⟨AE', cE', AL', cL', vs', ⟨h.tab.kept (fun j hj => ho.block j (h.tab.blk_lt j hj) (dis j hj)) (did_only ho h.doc.noDidE), hd, h.news, h.hk, h.bel.trans (ho.below h.bel.size (fun j hj => ?_)), fun j hj e => ?_⟩, hv, KB.doc h.doc ho⟩
  · rcases List.mem_cons.1 hj with rfl | hj
    · exact h.hk
    · obtain ⟨_, q, _⟩ := own_bk h.doc.eown j hj; exact q
  · rcases hE j e with q | q
    · exact h.apart j hj q
    · have := h.tab.blk_lt j (by simp [blocks, hj]); omega
end
/-- .. with what lies where left open -/
def S8 (W w : World) (g N k : Nat) (es : List Int) (ms : List Mk) (fs : List Int) (ns : List Mk) : Prop :=
  ∃ A cap b AE cE AL cL vs, ST W w g A cap b N k AE cE AL cL es ms fs vs ∧ vs.map (·.m) = ns
section
variable {W w w' : World} {g N k : Nat} {es fs : List Int} {ms ns : List Mk}
theorem S8.below (h : S8 W w g N k es ms fs ns) (b : Below w.heap.size w w') : S8 W w' g N k es ms fs ns := by
  obtain ⟨A, cap, b', AE, cE, AL, cL, vs, h, hv⟩ := h
  exact ⟨A, cap, b', AE, cE, AL, cL, vs, h.below b, hv⟩
theorem S8.bel (h : S8 W w g N k es ms fs ns) : Below W.heap.size W w := by
  obtain ⟨A, cap, b', AE, cE, AL, cL, vs, h, hv⟩ := h
  exact h.bel
theorem s8_open (id r1 r2 x : Int) (S : Hid (S8 W w g N k es ms fs ns)) (G : Hid (Good es ms)) (HX : Hid (openR es id = (r1, r2, x))) :
    Calls Try.prog 9 #[.pointer (some ⟨g, 0, none⟩), .int .i64 id] w fun e w' => e = .returned (.tuple #[.int .i64 r1, .int .i64 r2, .int .i64 x]) ∧ S8 W w' g N k (openE es id) (openM es ms id) fs ns ∧ KB w w' := by
  obtain ⟨A, cap, b, AE, cE, AL, cL, vs, h, hv⟩ := S.out
  refine (open_is id r1 r2 x (Lib.hid h.tab) G HX).mono ?_
  rintro e w' ⟨rfl, A', cap', ht', ho, hA'⟩
  exact ⟨rfl, ⟨A', cap', b, AE, cE, AL, cL, vs, h.prog ht' ho hA', hv⟩, KB.fr (Fr.only h.tab ho)⟩
theorem s8_done (t : ByteArray) (p pr ep sq off x : Int) (R : Option Addr) (n rc : Nat) (S : Hid (S8 W w g N k es ms fs ns)) (G : Hid (Good es ms)) (ht : t.size ≤ 281474976710656) (hp : Hid ((Lit.int .i64 p).wf = true)) (hN : N ≤ 100000) (HX : Hid (doneE es ms t p pr ep sq n off = x)) :
    Calls Try.prog 13 #[.pointer (some ⟨g, 0, none⟩), .agg #[.string t, .int .i64 p], .agg #[.int .i64 pr, .int .i64 ep, .int .i64 sq, .slice R n rc], .int .i64 off] w fun e w' => e = .returned (.int .i64 x) ∧ S8 W w' g (N + 1) k es (doneM es ms t p pr ep sq n off) fs ns ∧ KB w w' := by
  obtain ⟨A, cap, b, AE, cE, AL, cL, vs, h, hv⟩ := S.out
  refine (done_is t p pr ep sq off x R n rc (Lib.hid h.tab) G ht hp hN HX).mono ?_
  rintro e w' ⟨rfl, h', ho⟩
  have ho' : Only (blocks g A b) w w' := ho.mono (fun k q => .inl (by simp at q; simp [blocks, q]))
  exact ⟨rfl, ⟨A, cap, b, AE, cE, AL, cL, vs, h.prog h' ho' (fun _ q => .inl q), hv⟩, KB.fr (Fr.only h.tab ho')⟩
theorem s8_ask (t : ByteArray) (p pr ep sq x er : Int) (v : Bool) (R : Option Addr) (n rc : Nat) (S : Hid (S8 W w g N k es ms fs ns)) (G : Hid (Good es ms)) (ht : t.size ≤ maxLen) (hp : Hid ((Lit.int .i64 p).wf = true)) (HX : Hid (askP es ms t p pr ep sq n = (x, v, er))) :
    Calls Try.prog 11 #[.pointer (some ⟨g, 0, none⟩), .agg #[.string t, .int .i64 p], .agg #[.int .i64 pr, .int .i64 ep, .int .i64 sq, .slice R n rc]] w fun e w' => e = .returned (.tuple #[.int .i64 x, .bool v, .int .i64 er]) ∧ Below w.heap.size w w' := by
  obtain ⟨A, cap, b, AE, cE, AL, cL, vs, h, hv⟩ := S.out
  exact ask_is t p pr ep sq x er v R n rc (Lib.hid h.tab) G ht hp HX
theorem s8_ropen (id r1 r2 x : Int) (S : Hid (S8 W w g N k es ms fs ns)) (G : Hid (Good fs ns)) (hl : ns.length ≤ 100000) (HX : Hid (openR fs id = (r1, r2, x))) :
    Calls Try.prog 10 #[.pointer (some ⟨k, 0, none⟩), .int .i64 id] w fun e w' => e = .returned (.tuple #[.int .i64 r1, .int .i64 r2, .int .i64 x]) ∧ S8 W w' g N k es ms (openE fs id) (openM fs ns id) ∧ KB w w' := by
  obtain ⟨A, cap, b, AE, cE, AL, cL, vs, h, rfl⟩ := S.out
  refine (ropen_is id r1 r2 x (Lib.hid h.doc) (Lib.hid h.bel.size) (Lib.hid rfl) (by simpa using hl) G HX).mono ?_
  rintro e w' ⟨rfl, ht⟩
  obtain ⟨AE', cE', AL', cL', vs', h', hv', kb⟩ := h.turned ht
  exact ⟨rfl, ⟨A, cap, b, AE', cE', AL', cL', vs', h', hv'⟩, kb⟩
theorem s8_rdone (t : ByteArray) (p pr ep sq off x : Int) (R : Option Addr) (n rc : Nat) (S : Hid (S8 W w g N k es ms fs ns)) (G : Hid (Good fs ns)) (hl : ns.length ≤ 100000) (ht : t.size ≤ maxLen) (hp : Hid ((Lit.int .i64 p).wf = true)) (HX : Hid (doneE fs ns t p pr ep sq n off = x)) :
    Calls Try.prog 14 #[.pointer (some ⟨k, 0, none⟩), .agg #[.string t, .int .i64 p], .agg #[.int .i64 pr, .int .i64 ep, .int .i64 sq, .slice R n rc], .int .i64 off] w fun e w' => e = .returned (.int .i64 x) ∧ S8 W w' g N k es ms fs (doneM fs ns t p pr ep sq n off) ∧ KB w w' := by
  obtain ⟨A, cap, b, AE, cE, AL, cL, vs, h, rfl⟩ := S.out
  refine (rdone_is t p pr ep sq off x R n rc (Lib.hid h.doc) (Lib.hid h.bel.size) (Lib.hid rfl) (by simpa using hl) G ht hp HX).mono ?_
  rintro e w' ⟨rfl, ht⟩
  obtain ⟨AE', cE', AL', cL', vs', h', hv', kb⟩ := h.turned ht
  exact ⟨rfl, ⟨A, cap, b, AE', cE', AL', cL', vs', h', hv'⟩, kb⟩
theorem s8_rask (t : ByteArray) (p pr ep sq x er : Int) (v : Bool) (R : Option Addr) (n rc : Nat) (S : Hid (S8 W w g N k es ms fs ns)) (G : Hid (Good fs ns)) (hl : ns.length ≤ 100000) (ht : t.size ≤ maxLen) (hp : Hid ((Lit.int .i64 p).wf = true)) (HX : Hid (askP fs ns t p pr ep sq n = (x, v, er))) :
    Calls Try.prog 12 #[.pointer (some ⟨k, 0, none⟩), .agg #[.string t, .int .i64 p], .agg #[.int .i64 pr, .int .i64 ep, .int .i64 sq, .slice R n rc]] w fun e w' => e = .returned (.tuple #[.int .i64 x, .bool v, .int .i64 er]) ∧ Below w.heap.size w w' := by
  obtain ⟨A, cap, b, AE, cE, AL, cL, vs, h, rfl⟩ := S.out
  exact rask_is t p pr ep sq x er v R n rc (Lib.hid h.doc) (Lib.hid rfl) (by have : vs.length = (vs.map (·.m)).length := (by simp); omega) G ht hp HX
theorem s8_makers (S : Hid (S8 W w g N k es ms fs ns)) (G : Hid (Good es ms)) (hm : ms.length ≤ 100000) : Calls Try.prog 17 #[.pointer (some ⟨g, 0, none⟩)] w (MakersP w ms) := by
  obtain ⟨A, cap, b, AE, cE, AL, cL, vs, h, rfl⟩ := S.out
  exact makers_is (Lib.hid h.tab) G hm
end
/-- another table of the program's beside them -/
def S8W (W w : World) (g N k : Nat) (es : List Int) (ms : List Mk) (fs : List Int) (ns : List Mk) (g2 N2 : Nat) (es2 : List Int) (ms2 : List Mk) : Prop :=
  ∃ A cap b AE cE AL cL vs A2 cap2 b2, ST W w g A cap b N k AE cE AL cL es ms fs vs ∧ vs.map (·.m) = ns ∧ Tab w g2 A2 cap2 b2 N2 es2 ms2 ∧ ∀ j ∈ blocks g2 A2 b2, W.heap.size ≤ j ∧ j ∉ blocks g A b ∧ j ∉ k :: (bk AE ++ bk AL)
section
variable {W w w' : World} {g N k g2 N2 : Nat} {es fs es2 : List Int} {ms ns ms2 : List Mk}
/-- the copy takes the table's place; what was stays beside it -/
theorem s8_copy (S : Hid (S8 W w g N k es ms fs ns)) (G : Hid (Good es ms)) :
    Calls Try.prog 15 #[.pointer (some ⟨g, 0, none⟩)] w fun e w' => ∃ g', e = .returned (.pointer (some ⟨g', 0, none⟩)) ∧ S8W W w' g' N k es ms fs ns g N es ms ∧ KB w w' := by
  obtain ⟨A, cap, b, AE, cE, AL, cL, vs, h, hv⟩ := S.out
  refine (copy_is es.length (Lib.hid h.tab) rfl (by have := G.out.len; omega)).mono ?_
  rintro e w' ⟨g', rfl, ⟨A', cap', b', ht, hk⟩, hb⟩
  have hs := h.bel.size
  refine ⟨g', rfl, ⟨A', cap', b', AE, cE, AL, cL, vs, A, cap, b, ⟨ht, h.doc.below hb, fun j hj => Nat.le_trans hs (hk j hj), h.hk, h.bel.trans (hb.mono hs), fun j hj e => ?_⟩, hv, h.tab.below hb, fun j hj => ⟨h.news j hj, fun e => ?_, fun e => h.disj j e hj⟩⟩, KB.below hb⟩
  · have := hk j (by simp [blocks, hj]); have := h.doc.ltE j e; omega
  · have := hk j e; have := h.tab.blk_lt j hj; omega
theorem S8W.s (h : S8W W w g N k es ms fs ns g2 N2 es2 ms2) : S8 W w g N k es ms fs ns := by
  obtain ⟨A, cap, b, AE, cE, AL, cL, vs, A2, cap2, b2, h, hv, _⟩ := h
  exact ⟨A, cap, b, AE, cE, AL, cL, vs, h, hv⟩
theorem s8w_open (id r1 r2 x : Int) (S : Hid (S8W W w g N k es ms fs ns g2 N2 es2 ms2)) (G : Hid (Good es2 ms2)) (HX : Hid (openR es2 id = (r1, r2, x))) :
    Calls Try.prog 9 #[.pointer (some ⟨g2, 0, none⟩), .int .i64 id] w fun e w' => e = .returned (.tuple #[.int .i64 r1, .int .i64 r2, .int .i64 x]) ∧ S8W W w' g N k es ms fs ns g2 N2 (openE es2 id) (openM es2 ms2 id) ∧ KB w w' := by
  obtain ⟨A, cap, b, AE, cE, AL, cL, vs, A2, cap2, b2, h, hv, h2, hd⟩ := S.out
  refine (open_is id r1 r2 x (Lib.hid h2) G HX).mono ?_
  rintro e w' ⟨rfl, A', cap', ht', ho, hA'⟩
  refine ⟨rfl, ⟨A, cap, b, AE, cE, AL, cL, vs, A', cap', b2, h.other ho h2.noDid hd, hv, ht', fun j hj => ?_⟩, KB.fr (Fr.only h2 ho)⟩
  rcases List.mem_cons.1 hj with rfl | hj
  · exact hd _ (by simp [blocks])
  · rcases List.mem_cons.1 hj with rfl | hj
    · exact hd _ (by simp [blocks])
    · rcases hA' j hj with q | q
      · exact hd j (by simp [blocks, q])
      · exact ⟨Nat.le_trans h.bel.size q, fun e => by have := h.tab.blk_lt j e; omega, fun e => by have := h.doc.lt_blk j e; omega⟩
theorem s8w_done (t : ByteArray) (p pr ep sq off x : Int) (R : Option Addr) (n rc : Nat) (S : Hid (S8W W w g N k es ms fs ns g2 N2 es2 ms2)) (G : Hid (Good es2 ms2)) (ht : t.size ≤ 281474976710656) (hp : Hid ((Lit.int .i64 p).wf = true)) (hN : N2 ≤ 100000) (HX : Hid (doneE es2 ms2 t p pr ep sq n off = x)) :
    Calls Try.prog 13 #[.pointer (some ⟨g2, 0, none⟩), .agg #[.string t, .int .i64 p], .agg #[.int .i64 pr, .int .i64 ep, .int .i64 sq, .slice R n rc], .int .i64 off] w fun e w' => e = .returned (.int .i64 x) ∧ S8 W w' g N k es ms fs ns ∧ KB w w' := by
  obtain ⟨A, cap, b, AE, cE, AL, cL, vs, A2, cap2, b2, h, hv, h2, hd⟩ := S.out
  refine (done_is t p pr ep sq off x R n rc (Lib.hid h2) G ht hp hN HX).mono ?_
  rintro e w' ⟨rfl, h', ho⟩
  have ho' : Only (blocks g2 A2 b2) w w' := ho.mono (fun k q => .inl (by simp at q; simp [blocks, q]))
  exact ⟨rfl, ⟨A, cap, b, AE, cE, AL, cL, vs, h.other ho' h2.noDid hd, hv⟩, KB.fr (Fr.only h2 ho')⟩
end
end Go.Proofs.Ytcmlopflandlgaa.L8
