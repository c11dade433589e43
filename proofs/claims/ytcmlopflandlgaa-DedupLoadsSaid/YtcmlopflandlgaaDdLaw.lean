/-
  The calls of a law on tables of its own.
-/
import Derived.Test.YtcmlopflandlgaaDdOf
namespace Go.Proofs.Ytcmlopflandlgaa.L8
open Go.RowKit
open Go.Maps
open L3 L4

/-- a table of the law's own -/
def MT (B w : World) (g N : Nat) (es : List Int) (ms : List Mk) : Prop := TabM B.heap.size w g N es ms ∧ Below B.heap.size B w ∧ Good es ms
theorem MT.below {B w w' : World} {g N : Nat} {es : List Int} {ms : List Mk} (h : MT B w g N es ms) (b : Below w.heap.size w w') : MT B w' g N es ms := by
  obtain ⟨⟨A, cap, k, ht, hk⟩, hb, hg⟩ := h
  exact ⟨⟨A, cap, k, ht.below b, hk⟩, hb.trans (b.mono hb.size), hg⟩
/-- rows of any other kind stay -/
structure Fr (w w' : World) : Prop where
  size : w.heap.size ≤ w'.heap.size
  keep : ∀ (k : Nat) (cs : Array Value) (T : TypeId) (fr : Nat × Nat), w.heap[k]? = some (.cells cs T fr) → T ≠ 65 → T ≠ 3 → w'.heap[k]? = w.heap[k]?
theorem Fr.refl (w : World) : Fr w w := ⟨Nat.le_refl _, fun _ _ _ _ _ _ _ => rfl⟩
theorem Fr.below {w w' : World} (b : Below w.heap.size w w') : Fr w w' := ⟨b.size, fun k _ _ _ hk _ _ => b.block k (Array.getElem?_eq_some_iff.1 hk).1⟩
theorem Fr.trans {w w1 w2 : World} (a : Fr w w1) (b : Fr w1 w2) : Fr w w2 :=
  ⟨Nat.le_trans a.size b.size, fun k cs T fr hk h1 h2 => (b.keep k cs T fr ((a.keep k cs T fr hk h1 h2).trans hk) h1 h2).trans (a.keep k cs T fr hk h1 h2)⟩
theorem Fr.only {w w' : World} {g cap b N : Nat} {A : Option Addr} {es : List Int} {ms : List Mk} (h : Tab w g A cap b N es ms) (o : Only (blocks g A b) w w') : Fr w w' :=
  ⟨o.size, fun k cs T fr hk h1 h2 => o.block k (Array.getElem?_eq_some_iff.1 hk).1 (fun e => by
    rcases List.mem_cons.1 e with rfl | e
    · rw [h.row] at hk; injection hk with hk; injection hk with _ hk; exact h1 hk.symm
    · rcases List.mem_cons.1 e with rfl | e
      · obtain ⟨es', c, hb⟩ := h.map.map
        rw [hb] at hk; injection hk with hk; cases hk
      · obtain ⟨cs', _, hb⟩ := own_bk h.own k e
        rw [hb] at hk; injection hk with hk; injection hk with _ hk; exact h2 hk.symm)⟩
theorem Fr.box {w w' : World} (f : Fr w w') {k : Nat} {cs : Array Value} {T : TypeId} {fr : Nat × Nat} (h : w.heap[k]? = some (.cells cs T fr)) (h1 : T ≠ 65) (h2 : T ≠ 3) : w'.heap[k]? = some (.cells cs T fr) := (f.keep k cs T fr h h1 h2).trans h
theorem Fr.cell {w w' : World} (f : Fr w w') {a : Addr} {v : Value} (h : w.cell? a = some v) (ht : ∃ cs T fr, w.heap[a.block]? = some (.cells cs T fr) ∧ T ≠ 65 ∧ T ≠ 3) : w'.cell? a = some v := by
  obtain ⟨cs, T, fr, hk, h1, h2⟩ := ht
  exact (World.cell?_of_block (w := w) (f.keep _ cs T fr hk h1 h2)).trans h

variable {B w : World} {g N : Nat} {es : List Int} {ms : List Mk}
theorem m8_new (B w : World) (hb : Hid (Below B.heap.size B w)) : Calls Try.prog 7 #[] w fun e w' => ∃ g, e = .returned (.pointer (some ⟨g, 0, none⟩)) ∧ MT B w' g 0 [] [] ∧ Below w.heap.size w w' :=
  (new_is w).mono fun _ _ ⟨g, he, ⟨A, cap, b, ht, hk⟩, h2⟩ => ⟨g, he, ⟨⟨A, cap, b, ht, fun k q => Nat.le_trans hb.out.size (hk k q)⟩, hb.out.trans (h2.mono hb.out.size), good_new⟩, h2⟩
theorem m8_open (id r1 r2 x : Int) (M : Hid (MT B w g N es ms)) (HX : Hid (openR es id = (r1, r2, x))) :
    Calls Try.prog 9 #[.pointer (some ⟨g, 0, none⟩), .int .i64 id] w fun e w' => e = .returned (.tuple #[.int .i64 r1, .int .i64 r2, .int .i64 x]) ∧ MT B w' g N (openE es id) (openM es ms id) ∧ Fr w w' := by
  obtain ⟨⟨A, cap, b, ht, hk⟩, hb, hg⟩ := M.out
  refine (open_is id r1 r2 x (Lib.hid ht) (Lib.hid hg) HX).mono ?_
  rintro e w' ⟨rfl, A', cap', ht', ho, hA'⟩
  refine ⟨rfl, ⟨⟨A', cap', b, ht', fun k q => ?_⟩, hb.trans (ho.below hb.size hk), good_open hg id⟩, Fr.only ht ho⟩
  rcases List.mem_cons.1 q with rfl | q
  · exact hk _ (by simp [blocks])
  · rcases List.mem_cons.1 q with rfl | q
    · exact hk _ (by simp [blocks])
    · rcases hA' k q with q | q
      · exact hk k (by simp [blocks, q])
      · exact Nat.le_trans hb.size q
theorem m8_ask (t : ByteArray) (p pr ep sq x er : Int) (v : Bool) (R : Option Addr) (n rc : Nat) (M : Hid (MT B w g N es ms)) (ht : t.size ≤ maxLen) (hp : Hid ((Lit.int .i64 p).wf = true)) (HX : Hid (askP es ms t p pr ep sq n = (x, v, er))) :
    Calls Try.prog 11 #[.pointer (some ⟨g, 0, none⟩), .agg #[.string t, .int .i64 p], .agg #[.int .i64 pr, .int .i64 ep, .int .i64 sq, .slice R n rc]] w fun e w' => e = .returned (.tuple #[.int .i64 x, .bool v, .int .i64 er]) ∧ Below w.heap.size w w' := by
  obtain ⟨⟨A, cap, b, h, _⟩, _, hg⟩ := M.out
  exact ask_is t p pr ep sq x er v R n rc (Lib.hid h) (Lib.hid hg) ht hp HX
theorem m8_done (t : ByteArray) (p pr ep sq off x : Int) (R : Option Addr) (n rc : Nat) (M : Hid (MT B w g N es ms)) (ht : t.size ≤ 281474976710656) (hp : Hid ((Lit.int .i64 p).wf = true)) (hN : N ≤ 100000) (HX : Hid (doneE es ms t p pr ep sq n off = x)) :
    Calls Try.prog 13 #[.pointer (some ⟨g, 0, none⟩), .agg #[.string t, .int .i64 p], .agg #[.int .i64 pr, .int .i64 ep, .int .i64 sq, .slice R n rc], .int .i64 off] w fun e w' => e = .returned (.int .i64 x) ∧ MT B w' g (N + 1) es (doneM es ms t p pr ep sq n off) ∧ Fr w w' := by
  obtain ⟨⟨A, cap, b, h, hk⟩, hb, hg⟩ := M.out
  refine (done_is t p pr ep sq off x R n rc (Lib.hid h) (Lib.hid hg) ht hp hN HX).mono ?_
  rintro e w' ⟨rfl, h', ho⟩
  have ho' : Only (blocks g A b) w w' := ho.mono (fun k q => .inl (by simp at q; simp [blocks, q]))
  exact ⟨rfl, ⟨⟨A, cap, b, h', hk⟩, hb.trans (ho'.below hb.size hk), good_done hg t p pr ep sq n off (by unfold maxLen; omega) hp.out⟩, Fr.only h ho'⟩
theorem m8_makers (M : Hid (MT B w g N es ms)) (hm : ms.length ≤ 100000) : Calls Try.prog 17 #[.pointer (some ⟨g, 0, none⟩)] w (MakersP w ms) := by
  obtain ⟨⟨A, cap, b, h, hk⟩, hb, hg⟩ := M.out
  exact makers_is (Lib.hid h) (Lib.hid hg) hm
theorem m8_epochs (M : Hid (MT B w g N es ms)) (n : Nat) (hn : es.length = n) : Calls Try.prog 23 #[.pointer (some ⟨g, 0, none⟩)] w (CopyR w 3 1 n (rowN es)) := by
  obtain ⟨⟨A, cap, b, h, hk⟩, hb, hg⟩ := M.out
  exact epochs_is (Lib.hid h) n hn (by have := hg.len; omega)
/-- what Makers told, as Load takes it -/
theorem told_rows {w' : World} {vs : List MV} {base : Nat} (h : ∀ v ∈ vs, w'.ownsRow base 50 3 (.slice v.A v.m.l.length v.c) v.m.l.length (rowD v.m.l)) : RowsIn w' vs := fun v hv => by
  refine ⟨RowC.own (h v hv) rfl, fun e => ?_⟩
  rcases (h v hv).2 with ⟨e', _⟩ | ⟨b, cap, cur, e', _⟩
  · injection e' with _ _ e3
  · injection e' with e1; rw [e] at e1; cases e1
theorem own_nil {w : World} {base n k c : Nat} {A : Option Addr} {T : TypeId} {xs : List Value} (h : w.ownsRow base T k (.slice A n c) n xs) : A = none → c = 0 := fun e => by
  rcases h.2 with ⟨e', _⟩ | ⟨b, cap, cur, e', _⟩
  · injection e' with _ _ e3
  · injection e' with e1; rw [e] at e1; cases e1
end Go.Proofs.Ytcmlopflandlgaa.L8
